/- Records: thirty-two bytes, frames, entries; their cells. Any seat. -/
import Derived.Test.YtcnkakahhekobaaUb
import Derived.Test.YtcnkakahhekobaaPq
import Derived.ChangeKeysEq
import Derived.Laws.StructEq
namespace Go.Proofs.Ytcnkakahhekobaa
open Go.RowKit
set_option maxRecDepth 100000
set_option linter.unusedSimpArgs false
set_option linter.unusedVariables false

/-! ### Thirty-two bytes -/
structure B32 where
  l : List UInt8
  h : l.length = 32
deriving DecidableEq
def at32 (b : B32) (i : Nat) : UInt8 := b.l.getD i 0
def B32.ofL (L : List UInt8) : B32 := ⟨(L ++ List.replicate 32 0).take 32, by simp⟩
def B32.zero : B32 := ⟨List.replicate 32 0, List.length_replicate⟩
def B32.put (b : B32) (i : Nat) (u : UInt8) : B32 := ⟨b.l.set i u, by rw [List.length_set]; exact b.h⟩
theorem B32.ext' {a b : B32} (h : a.l = b.l) : a = b := by cases a; cases b; simp_all
theorem B32.eq_iff {a b : B32} : a = b ↔ a.l = b.l := ⟨fun h => by rw [h], B32.ext'⟩
def l32 (b : B32) : List Value := [.int .u8 (u8 (at32 b 0)), .int .u8 (u8 (at32 b 1)), .int .u8 (u8 (at32 b 2)), .int .u8 (u8 (at32 b 3)), .int .u8 (u8 (at32 b 4)), .int .u8 (u8 (at32 b 5)), .int .u8 (u8 (at32 b 6)), .int .u8 (u8 (at32 b 7)), .int .u8 (u8 (at32 b 8)), .int .u8 (u8 (at32 b 9)), .int .u8 (u8 (at32 b 10)), .int .u8 (u8 (at32 b 11)), .int .u8 (u8 (at32 b 12)), .int .u8 (u8 (at32 b 13)), .int .u8 (u8 (at32 b 14)), .int .u8 (u8 (at32 b 15)), .int .u8 (u8 (at32 b 16)), .int .u8 (u8 (at32 b 17)), .int .u8 (u8 (at32 b 18)), .int .u8 (u8 (at32 b 19)), .int .u8 (u8 (at32 b 20)), .int .u8 (u8 (at32 b 21)), .int .u8 (u8 (at32 b 22)), .int .u8 (u8 (at32 b 23)), .int .u8 (u8 (at32 b 24)), .int .u8 (u8 (at32 b 25)), .int .u8 (u8 (at32 b 26)), .int .u8 (u8 (at32 b 27)), .int .u8 (u8 (at32 b 28)), .int .u8 (u8 (at32 b 29)), .int .u8 (u8 (at32 b 30)), .int .u8 (u8 (at32 b 31))]
theorem l32_range (b : B32) : l32 b = (List.range 32).map fun i => Value.int .u8 (u8 (at32 b i)) := rfl
theorem l32_eq (b : B32) : l32 b = cU b.l := by
  rw [l32_range, cU_map]
  apply List.ext_getElem
  · simp [b.h]
  · intro i h1 h2
    have hi : i < b.l.length := by simpa using h2
    simp [at32, List.getD_eq_getElem?_getD, List.getElem?_eq_getElem hi]
theorem l32_len (b : B32) : (l32 b).length = 32 := rfl
theorem ofL_full {L : List UInt8} (h : L.length = 32) : (B32.ofL L).l = L := by
  show (L ++ List.replicate 32 0).take 32 = L
  rw [← h, List.take_left]
theorem ofL_nil : B32.ofL [] = B32.zero := B32.ext' (by show (([] : List UInt8) ++ List.replicate 32 0).take 32 = List.replicate 32 (0 : UInt8); simp)
theorem ofL_own (b : B32) : B32.ofL b.l = b := B32.ext' (ofL_full b.h)
theorem ofL_put {L : List UInt8} {i : Int} (h0 : 0 ≤ i) (hi : i < 32) (hl : i < (L.length : Int)) : (B32.ofL (L.take i.toNat)).put i.toNat (atU L i.toNat) = B32.ofL (L.take (i + 1).toNat) := by
  apply B32.ext'
  have e : (i + 1).toNat = i.toNat + 1 := by omega
  have hil : i.toNat < L.length := by omega
  show ((L.take i.toNat ++ List.replicate 32 0).take 32).set i.toNat (atU L i.toNat) = (L.take (i + 1).toNat ++ List.replicate 32 0).take 32
  rw [e]
  apply List.ext_getElem
  · simp
  · intro j h1 h2
    simp only [List.length_set, List.length_take, List.length_append, List.length_replicate] at h1
    rw [List.getElem_set, List.getElem_take, List.getElem_take, List.getElem_append, List.getElem_append]
    simp only [List.length_take]
    split
    · rename_i ej; subst ej
      rw [dif_pos (by omega), List.getElem_take, atU_eq hil]
    · rename_i ej
      by_cases hj : j < i.toNat
      · rw [dif_pos (by omega), dif_pos (by omega), List.getElem_take, List.getElem_take]
      · rw [dif_neg (by omega), dif_neg (by omega), List.getElem_replicate, List.getElem_replicate]
theorem at32_put {b : B32} {i j : Nat} {u : UInt8} (hi : i < 32) : at32 (b.put i u) j = if i = j then u else at32 b j := by
  unfold at32 B32.put
  simp only [List.getD_eq_getElem?_getD, List.getElem?_set, b.h, hi, if_true]
  split <;> simp_all
theorem l32_put (b : B32) {i : Nat} (u : UInt8) (hi : i < 32) : (l32 b).set i (.int .u8 (u8 u)) = l32 (b.put i u) := by
  rw [l32_range, l32_range]
  apply List.ext_getElem
  · simp
  · intro j h1 h2
    rw [List.getElem_set, List.getElem_map, List.getElem_map, List.getElem_range, at32_put hi]
    split <;> rfl
/-! ### Frames, entries -/
structure Fm where
  kind : Int
  frm : Int
  dst : Int
  org : Int
  seq : Int
  text : List UInt8
  tag : B32
deriving DecidableEq
def Fm.zero : Fm := ⟨0, 0, 0, 0, 0, [], B32.zero⟩
def cFm (x : Fm) : List Value := [.int .i64 x.kind, .int .i64 x.frm, .int .i64 x.dst, .int .i64 x.org, .int .i64 x.seq, strV x.text] ++ l32 x.tag
structure En where
  seq : Int
  prev : B32
  kind : Int
  po : Po
  edge : Int
  peer : Int
  n : Int
deriving DecidableEq
def En.zero : En := ⟨0, B32.zero, 0, Po.zero, 0, 0, 0⟩
def cEn (x : En) : List Value := .int .i64 x.seq :: (l32 x.prev ++ [.int .i64 x.kind, .int .i64 x.po.n, .int .i64 x.po.t.e, .int .i64 x.po.t.r, .int .i64 x.edge, .int .i64 x.peer, .int .i64 x.n])
theorem cFm_len (x : Fm) : (cFm x).length = 38 := rfl
theorem cEn_len (x : En) : (cEn x).length = 40 := rfl
theorem cFm_tag (x : Fm) {i : Nat} (u : UInt8) (hi : i < 32) : (List.toArray (cFm x)).setIfInBounds (6 + i) (.int .u8 (u8 u)) = List.toArray (cFm { x with tag := x.tag.put i u }) := by
  show _ = List.toArray ([.int .i64 x.kind, .int .i64 x.frm, .int .i64 x.dst, .int .i64 x.org, .int .i64 x.seq, strV x.text] ++ l32 (x.tag.put i u))
  rw [← l32_put x.tag u hi]
  unfold cFm
  rw [List.setIfInBounds_toArray]
  congr 1
  rw [List.set_append_right _ _ (by simp)]
  simp
theorem cEn_prev (x : En) {i : Nat} (u : UInt8) (hi : i < 32) : (List.toArray (cEn x)).setIfInBounds (1 + i) (.int .u8 (u8 u)) = List.toArray (cEn { x with prev := x.prev.put i u }) := by
  show _ = List.toArray (.int .i64 x.seq :: (l32 (x.prev.put i u) ++ [.int .i64 x.kind, .int .i64 x.po.n, .int .i64 x.po.t.e, .int .i64 x.po.t.r, .int .i64 x.edge, .int .i64 x.peer, .int .i64 x.n]))
  rw [← l32_put x.prev u hi]
  unfold cEn
  rw [List.setIfInBounds_toArray]
  congr 1
  rw [Nat.add_comm, List.set_cons_succ, List.set_append_left _ _ (by rw [l32_len]; exact hi)]
theorem l32_at (b : B32) {i : Nat} (hi : i < 32) : (l32 b)[i]? = some (.int .u8 (u8 (at32 b i))) := by
  rw [l32_range, List.getElem?_map, List.getElem?_range hi]; rfl
section
variable {P : Program} {w : World} {xs ys : Array Value} {f : Field} {fs : List Field} {a b : Value} {r r' : Bool} {dd : Nat} {t e : TypeId}
/-! ### == -/
theorem eqF_nil : (Op.eqFields dd xs ys []).run P w = .ok true w := by simp [Op.eqFields]
theorem eqF_cons (hn : f.name ≠ "_") (ha : (part f.type xs f.offset).run P w = .ok a w) (hb : (part f.type ys f.offset).run P w = .ok b w) (he : (Op.equalIn dd f.type a b).run P w = .ok r w) (hr : (Op.eqFields dd xs ys fs).run P w = .ok r' w) : (Op.eqFields dd xs ys (f :: fs)).run P w = .ok (r && r') w := by
  simp only [Op.eqFields, hn, ne_eq, not_false_eq_true, if_true, Sem.run_bind, ha, hb, he, Result.andThen_ok]
  cases r
  · simp
  · simpa using hr
theorem part_one {off : Nat} (ht : ∃ d, P.underlying t = some d ∧ d.isRow = false) (h : xs[off]? = some a) : (part t xs off).run P w = .ok a w := by
  obtain ⟨d, hd, hr⟩ := ht
  have : (isAgg t).run P w = .ok false w := by
    cases d <;> simp_all [isAgg, run_underlying hd, TypeDesc.isRow]
  simp [part, this, h]
theorem part_agg {off m : Nat} {cs : List Value} (ht : AggTy P t m) (h : (xs.toList.drop off).take m = cs) : (part t xs off).run P w = .ok (.agg (List.toArray cs)) w := by
  obtain ⟨d, hd, hr, hi⟩ := ht
  cases hq : P.info? t with
  | none => simp [hq] at hi
  | some i =>
    simp only [hq, Option.map_some, Option.some.injEq] at hi
    have h1 : (isAgg t).run P w = .ok true w := by
      cases d <;> simp_all [isAgg, run_underlying hd, TypeDesc.isRow]
    have h2 : xs.extract off (off + m) = List.toArray cs := by
      apply Array.ext'
      rw [← h]; simp [List.take_drop]
    simp [part, h1, sizeOf, typeInfo, hq, hi, h2]
theorem eq_int {k : IntKind} {i j : Int} (h : P.underlying t = some (.int k)) : (Op.equalIn (dd + 1) t (.int k i) (.int k j)).run P w = .ok (decide (i = j)) w := by
  rw [run_equalIn_int w dd t k k i j h]
  congr 1
theorem eq_str {A B : List UInt8} (h : P.underlying t = some .string) : (Op.equalIn (dd + 1) t (strV A) (strV B)).run P w = .ok (decide (A = B)) w := by
  unfold strV
  rw [run_equalIn_string w dd t _ _ h, str_list, str_list, show (A == B) = decide (A = B) by rw [Bool.eq_iff_iff, beq_iff_eq, decide_eq_true_iff]]
theorem eqI32 (he : P.underlying e = some (.int .u8)) (x y : B32) : ∀ is : List Nat, (∀ i ∈ is, i < 32) → (Op.eqItems (dd + 1) e 1 (List.toArray (l32 x)) (List.toArray (l32 y)) is).run P w = .ok (is.all fun i => decide (at32 x i = at32 y i)) w
  | [], _ => by simp [Op.eqItems]
  | i :: is, h => by
    have hi := h i (by simp)
    have p1 : (part e (List.toArray (l32 x)) i).run P w = .ok (.int .u8 (u8 (at32 x i))) w := part_one ⟨_, he, rfl⟩ (by rw [List.getElem?_toArray]; exact l32_at x hi)
    have p2 : (part e (List.toArray (l32 y)) i).run P w = .ok (.int .u8 (u8 (at32 y i))) w := part_one ⟨_, he, rfl⟩ (by rw [List.getElem?_toArray]; exact l32_at y hi)
    have hb : decide (u8 (at32 x i) = u8 (at32 y i)) = decide (at32 x i = at32 y i) := by
      rw [decide_eq_decide]; exact ⟨u8_inj, fun h => by rw [h]⟩
    have p3 := eq_int (P := P) (w := w) (dd := dd) (i := u8 (at32 x i)) (j := u8 (at32 y i)) he
    rw [hb] at p3
    have ih := eqI32 he x y is (fun j hj => h j (by simp [hj]))
    simp only [Op.eqItems, Nat.mul_one, Sem.run_bind, p1, p2, p3, Result.andThen_ok, List.all_cons]
    cases hc : decide (at32 x i = at32 y i)
    · simp
    · simp [ih]
theorem all32 (x y : B32) : ((List.range 32).all fun i => decide (at32 x i = at32 y i)) = decide (x = y) := by
  rw [Bool.eq_iff_iff, List.all_eq_true, decide_eq_true_iff]
  refine ⟨fun h => B32.ext' (List.ext_getElem (by rw [x.h, y.h]) fun i h1 h2 => ?_), fun h i _ => by rw [h]; simp⟩
  have := h i (List.mem_range.2 (by rw [← x.h]; exact h1))
  simpa [at32, List.getD_eq_getElem?_getD, List.getElem?_eq_getElem h1, List.getElem?_eq_getElem h2] using this
theorem eqA32 (ht : P.underlying t = some (.array 32 e)) (he : P.underlying e = some (.int .u8)) (hi : (P.info? e).map (·.size) = some 1) (hc : P.cellsOf e = 1) (x y : B32) : (Op.equalIn (dd + 2) t (.agg (List.toArray (l32 x))) (.agg (List.toArray (l32 y)))).run P w = .ok (decide (x = y)) w := by
  cases hq : P.info? e with
  | none => simp [hq] at hi
  | some i =>
    rw [run_equalIn_array w (dd + 1) _ _ ht hq, hc, eqI32 he x y _ (fun i hi => List.mem_range.1 hi), all32]
end
/-! ### Arrays in blocks -/
section
variable {P : Program} {o : Oper} {a : Act} {x y lo hi : Operand} {v : Value} {w : World} {t e ty : TypeId} {g off n N l h j : Nat} {cs : Array Value} {b : B32} {i : Int} {k : IntKind} {A L : List UInt8}
theorem pu_sliceF (ho : o.op = .slice t x none none none) (hx : a.eval x = .pointer (some ⟨g, off, none⟩)) {e : TypeId} (hu : P.underlying t = some (.array 32 e)) (hi : (P.info? e).map (·.size) = some 1) : Pure P o a (.slice (some ⟨g, off, none⟩) 32 32) := fun w' => by
  cases hq : P.info? e with
  | none => simp [hq] at hi
  | some inf =>
    have hs : inf.size = 1 := by simpa [hq] using hi
    simp only [execOp, ho, hx]
    simp [Instr.sliceAt, Instr.sureAddr, Instr.sliceBounds, run_underlying hu, sizeOf, typeInfo, hq, addr_add]
theorem arr_rdv (hb : Blk w g t cs) (hc : (cs.toList.drop off).take 32 = l32 b) : RdV w 1 (.slice (some ⟨g, off, none⟩) 32 32) 32 (cU b.l) := by
  rw [l32_eq] at hc
  refine ⟨by rw [cU_len, b.h], _, _, rfl, Nat.le_refl _, by decide, fun _ => ⟨g, off, rfl, hb.lt, fun j u hj => ?_⟩⟩
  rw [← hc, List.getElem?_take, List.getElem?_drop] at hj
  split at hj
  · rw [hb.cell]; simpa using hj
  · cases hj
theorem at_arr (hc : (cs.toList.drop off).take 32 = l32 b) (hj : j < 32) : cs[off + j]? = some (.int .u8 (u8 (at32 b j))) := by
  have := l32_at b hj
  rw [← hc, List.getElem?_take, if_pos hj, List.getElem?_drop] at this
  simpa using this
theorem pu_ixO (ho : o.op = .indexAddr t x y) (hx : a.eval x = .pointer (some ⟨g, off, none⟩)) (hy : a.eval y = .int .i64 i) (hu : P.underlying t = some (.array N e)) (hi : (P.info? e).map (·.size) = some 1) (h0 : 0 ≤ i) (h1 : i < (N : Int)) : Pure P o a (.pointer (some ⟨g, off + i.toNat * 1, none⟩)) := fun w => by
  cases hq : P.info? e with
  | none => simp [hq] at hi
  | some inf =>
    have hs : inf.size = 1 := by simpa [hq] using hi
    simp only [execOp, ho, hx, hy]
    simp [go_sem, Instr.indexAt, run_underlying hu, sizeOf, typeInfo, hq, hs, h0, h1, addr_add]
theorem subU {v : Value} (hr : RdV w 1 v n (cU L)) (hl : l ≤ h) (hh : h ≤ n) : RdV w 1 (subS 1 l h v) (h - l) (cU ((L.drop l).take (h - l))) := by
  have := sub_rdv hr hl hh
  have e : ((cU L).drop (l * 1)).take ((h - l) * 1) = cU ((L.drop l).take (h - l)) := by
    have e1 : (cU L).drop (l * 1) = cU (L.drop l) := cE_drop (E := encU) L l
    have e2 : (cU (L.drop l)).take ((h - l) * 1) = cU ((L.drop l).take (h - l)) := cE_take (E := encU) _ _
    rw [e1, e2]
  rwa [e] at this
theorem subU0 {v : Value} (hr : RdV w 1 v n (cU L)) (hh : h ≤ n) : RdV w 1 (subS 1 0 h v) h (cU (L.take h)) := by
  have := subU hr (Nat.zero_le h) hh
  rwa [List.drop_zero, Nat.sub_zero] at this
theorem pu_sliceS0 (ho : o.op = .slice t x none (some hi) none) (hx : a.eval x = strV A) (hhi : a.eval hi = .int .i64 i) (hu : P.underlying t = some .string) (h0 : 0 ≤ i) (h1 : i ≤ (A.length : Int)) : Pure P o a (strV (A.take i.toNat)) := fun w' => by
  simp only [execOp, ho, hx, Option.map_some, Option.map_none, hhi, strV]
  have hz := str_size A
  have e1 : (Instr.sliceBounds false A.length A.length none (some (.int .i64 i)) none).run P w' = .ok (0, i.toNat, A.length) w' := by
    simp only [Instr.sliceBounds, Sem.run_bind, Sem.run_pure, Result.andThen_ok, run_sliceBound _ _ _ _ _ h0 h1]
  have e2 : (ByteArray.mk A.toArray).extract 0 i.toNat = ByteArray.mk (A.take i.toNat).toArray := by
    apply ByteArray.ext
    simp
  simp [Instr.sliceAt, Instr.slice, run_underlying hu, hz, e1, e2]
theorem pu_cvtI {src dst : TypeId} (ho : o.op = .convert src dst x) (hx : a.eval x = .int .i64 i) (hs : (P.underlying src).isSome = true) (hd : P.underlying dst = some (.int .i64)) (h0 : -9223372036854775808 ≤ i) (h1 : i ≤ 9223372036854775807) : Pure P o a (.int .i64 i) := fun w => by
  have hk : P.intKind dst = .i64 := by simp [Program.intKind, hd]
  have := run_convert_int (P := P) w src dst .i64 i hs (by rw [hk]; exact hd)
  rw [hk] at this
  have hw : IntKind.i64.wrap i = i := by simp [IntKind.wrap, IntKind.signed, IntKind.bits]; omega
  rw [hw] at this
  simp only [execOp, ho, hx, Sem.run_bind, this, Result.andThen_ok, Sem.run_pure]
end
section
variable {P : Program} {ops rest : List Oper} {o : Oper} {a : Act} {n : Nat} {L : List (Nat × Value)} {Q : Exit → Act → World → Prop} {R : List Nat} {w w0 : World} {B : List Ent} {x y : Operand} {t ty : TypeId} {i g k m : Nat} {cs : Array Value} {ys : List Value}
/-- A store into a part of a block. -/
theorem sq_stP (F : Fr a n L) (M : Mm R w0 w B) (hw : Region.wanted o (yielded ops.toArray a.tmps) = true) (ho : o.op = .store ty x y) (hx : a.eval x = .pointer (some ⟨g, k, none⟩)) (hy : a.eval y = .agg (List.toArray ys))
    (hi : B[i]? = some (.blk g t cs)) (hT : AggTy P ty m) (hm : ys.length = m) (hk : k + m ≤ cs.size) (h1 : ∀ v ∈ ys, v.oneCell' = true) (hd : o.dst = none)
    (h : ∀ w', Mm R w0 w' (B.set i (.blk g t (List.toArray (cs.toList.take k ++ ys ++ cs.toList.drop (k + m))))) → wpList P ops.toArray Q rest a w') : wpList P ops.toArray Q (o :: rest) a w := by
  obtain ⟨d, hu, hr, hs⟩ := hT
  cases hq : P.info? ty with
  | none => simp [hq] at hs
  | some inf =>
    simp only [hq, Option.map_some, Option.some.injEq] at hs
    have hst := run_storeCells_at P g k t ys 0 cs w (M.at hi) (by omega) h1
    simp only [Nat.add_zero, hm] at hst
    refine sq_run0 (v := undef) (w' := w.setRow g (cs.toList.take k ++ ys ++ cs.toList.drop (k + m)).toArray) F hw (.inr ?_) (M.setRow hi _) hd h
    simp only [execOp, ho, hx, hy]
    simp [Instr.storeAt, Instr.sureAddr, storeVar, sizeOf, typeInfo, hq, hs, Value.cells, hm, hst]
end
def cEn2 (p : En × En) : List Value := cEn p.1 ++ cEn p.2
/-! ### Entries as elements -/
theorem l32_ones (b : B32) : ∀ z ∈ l32 b, z.oneCell' = true := by rw [l32_eq]; exact cU_ones _
def encN : Enc En := ⟨40, cEn, En.zero, cEn_len, fun x z hz => by
  simp only [cEn, List.mem_cons, List.mem_append, List.not_mem_nil, or_false] at hz
  rcases hz with rfl | hz | rfl | rfl | rfl | rfl | rfl | rfl | rfl
  · rfl
  · exact l32_ones _ z hz
  all_goals rfl⟩
def cN (L : List En) : List Value := cE encN L
def atN (L : List En) (i : Nat) : En := atE encN L i
theorem cN_at {L : List En} {i : Nat} (h : i < L.length) : ((cN L).drop (i * 40)).take 40 = cEn (atN L i) := cE_at (E := encN) h
theorem cN_app (L K : List En) : cN (L ++ K) = cN L ++ cN K := cE_app L K
theorem cN_ones (L : List En) : ∀ z ∈ cN L, z.oneCell' = true := cE_ones L
abbrev RdN (w : World) (v : Value) (L : List En) : Prop := RdV w 40 v L.length (cN L)
/-! ### Puts of layer 12 -/
/-- A put: what is to be done, by whom, and the entry. -/
structure Om where
  d : Int
  k : Int
  e : En
def cOm (x : Om) : List Value := .int .i64 x.d :: .int .i64 x.k :: cEn x.e
def encO : Enc Om := ⟨42, cOm, ⟨0, 0, En.zero⟩, fun _ => rfl, fun x z hz => by
  simp only [cOm, List.mem_cons] at hz
  rcases hz with rfl | rfl | hz
  · rfl
  · rfl
  · exact encN.ones _ z hz⟩
def cO (L : List Om) : List Value := cE encO L
def atM (L : List Om) (i : Nat) : Om := atE encO L i
theorem cO_at {L : List Om} {i : Nat} (h : i < L.length) : ((cO L).drop (i * 42)).take 42 = cOm (atM L i) := cE_at (E := encO) h
theorem cO_app (L K : List Om) : cO (L ++ K) = cO L ++ cO K := cE_app L K
theorem cO_ones (L : List Om) : ∀ z ∈ cO L, z.oneCell' = true := cE_ones L
theorem atM_eq {L : List Om} {i : Nat} (h : i < L.length) : atM L i = L[i] := atE_eq (E := encO) h
abbrev RdO (w : World) (v : Value) (L : List Om) : Prop := RdV w 42 v L.length (cO L)

end Go.Proofs.Ytcnkakahhekobaa
