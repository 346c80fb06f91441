import Derived.Test.YtiigbhpnlpbnjaaWd
import Derived.Test.YtiigbhpnlpbnjaaMb
import Derived.Laws.CopyOwn
import Derived.Deep.DeepCutAuto
namespace Go.Proofs.Ytiigbhpnlpbnjaa
open Go.RowKit

theorem block_of_add (a : Addr) (n : Nat) : (a.add n).block = a.block := by unfold Addr.add; split <;> rfl
theorem add_of_add (a : Addr) (i j : Nat) : (a.add i).add j = a.add (i + j) := by
  unfold Addr.add
  by_cases hi : i = 0 <;> by_cases hj : j = 0 <;> simp [hi, hj, Nat.add_assoc]

def Rd (w : World) (B : Nat) (A : Option Addr) (l : List Nat) : Prop :=
  0 < l.length → ∃ ad, A = some ad ∧ ad.block < B ∧ ∀ j, j < l.length → w.cell? (ad.add j) = some (.int .u8 ((at0 l j : Nat) : Int))
theorem Rd.below {w w' : World} {B : Nat} {A : Option Addr} {l : List Nat} (h : Rd w B A l) (hb : Below B w w') : Rd w' B A l := fun h0 => by
  obtain ⟨ad, rfl, hB, hc⟩ := h h0
  exact ⟨ad, rfl, hB, fun j hj => (hb.cell (p := ad.add j) (by rw [block_of_add]; exact hB)).trans (hc j hj)⟩
theorem Rd.more {w : World} {B B' : Nat} {A : Option Addr} {l : List Nat} (h : Rd w B A l) (hB : B ≤ B') : Rd w B' A l := fun h0 => by
  obtain ⟨ad, rfl, hB, hc⟩ := h h0
  exact ⟨ad, rfl, by omega, hc⟩
theorem Rd.cut {w : World} {B : Nat} {A : Option Addr} {l : List Nat} (h : Rd w B A l) {k c : Nat} (hk : k ≤ l.length) (hc : l.length ≤ c) :
    Rd w B (if c = k then A else A.map (·.add k)) (l.drop k) := fun h0 => by
  rw [List.length_drop] at h0
  obtain ⟨ad, rfl, hB, hcell⟩ := h (by omega)
  rw [if_neg (by omega)]
  refine ⟨ad.add k, rfl, by rw [block_of_add]; exact hB, fun j hj => ?_⟩
  rw [List.length_drop] at hj
  rw [add_of_add, at0_drop]
  exact hcell _ (by omega)

theorem info5 : (Try.prog.info? 5).map (·.size) = some 1 := by kernel_rfl
theorem B8_oneCell (l : List Nat) : ∀ v ∈ (B8 l).toList, v.oneCell' = true := by
  intro v hv
  simp only [B8, List.mem_map] at hv
  obtain ⟨x, _, rfl⟩ := hv
  rfl
theorem wpList_copy8 {w : World} {ops : Array Oper} {rest : List Oper} {o : Oper} {a : Act} {Q : Exit → Act → World → Prop} (hgd : o.guard = none) (d s : Operand)
    (ho : o.op = .call { callee := .builtin .copy, args := #[d, s], argTypes := #[22, 22] })
    (g dCap : Nat) (A : Option Addr) (n sCap : Nat) (hd : a.eval d = .slice (some ⟨g, 0, none⟩) 64 dCap) (hs : a.eval s = .slice A n sCap)
    (t : TypeId) (cur l : List Nat) (B : Nat) (hg : Blk w g t (B8 cur)) (hcur : cur.length = 64) (hn : l.length = n) (hr : Rd w B A l) (X : List Nat) (hX : l.take 64 ++ cur.drop l.length = X) (m : Int) (hm : ((min n 64 : Nat) : Int) = m)
    (h : wpList Try.prog ops Q rest (a.put o.dst (.int .i64 m)) (w.setRow g (B8 X))) : wpList Try.prog ops Q (o :: rest) a w := by
  subst hn; subst hX; subst hm
  by_cases h0 : l.length = 0
  · obtain rfl : l = [] := List.eq_nil_of_length_eq_zero h0
    refine wpList_copy_nothing hgd d s 22 22 ho 5 Try.underlying22 info5 (some ⟨g, 0, none⟩) A 64 dCap _ sCap hd hs (by simp) ?_
    have e : w.setRow g (B8 cur) = w := setRow_self w g _ t (0, 0) hg
    simp only [List.take_nil, List.length_nil, List.drop_zero, List.nil_append, e] at h
    simpa [goInt] using h
  · obtain ⟨ad, rfl, hB, hc⟩ := hr (by omega)
    have hlen : (B8 (l.take 64)).toList.length = Nat.min l.length 64 := by simp [B8, Nat.min_comm]
    refine wpList_copy_own hgd d s 22 22 ho 5 Try.underlying22 info5 g 0 64 dCap ad _ sCap hd hs (B8 cur) t hg (B8 (l.take 64)).toList hlen ?_ ?_ (B8_oneCell _) ?_
    · intro j v hv
      rw [Array.getElem?_toList] at hv
      have hj : j < (l.take 64).length := by
        rcases Nat.lt_or_ge j (l.take 64).length with h | h
        · exact h
        · rw [Array.getElem?_eq_none (by rw [B8_size]; exact h)] at hv; cases hv
      rw [B8_get hj] at hv
      injection hv with hv
      subst hv
      rw [List.length_take] at hj
      have hj1 : j < 64 := Nat.lt_of_lt_of_le hj (Nat.min_le_left _ _)
      have hj2 : j < l.length := Nat.lt_of_lt_of_le hj (Nat.min_le_right _ _)
      rw [hc j hj2, at0_take hj1]
    · rw [hlen, B8_size, hcur]; rw [Nat.zero_add]; exact Nat.min_le_right _ _
    · rw [hlen]
      have e1 : ((B8 cur).toList.take 0 ++ ((B8 (l.take 64)).toList ++ (B8 cur).toList.drop (0 + Nat.min l.length 64))).toArray = B8 (l.take 64 ++ cur.drop l.length) := by
        unfold B8
        simp only [List.take_zero, List.nil_append, Nat.zero_add, List.map_append, List.map_drop]
        congr 2
        by_cases hl : l.length ≤ 64
        · rw [show Nat.min l.length 64 = l.length from Nat.min_eq_left hl]
        · rw [show Nat.min l.length 64 = 64 from Nat.min_eq_right (by omega), List.drop_of_length_le (by simp [hcur]), List.drop_of_length_le (by simp [hcur]; omega)]
      rw [e1]
      exact h

theorem absorbK_length {st l : List Nat} (hs : st.length = 8) (k : Nat) : (absorbK st l k).length = 8 := by
  cases k with
  | zero => exact hs
  | succ k => exact addS_length _ _
theorem absorbK_lt {st l : List Nat} (hs : W32 st) (k : Nat) : W32 (absorbK st l k) := by
  cases k with
  | zero => exact hs
  | succ k => exact addS_lt _ _
def chunk (l : List Nat) (k : Nat) : List Nat := (l.drop (64 * k)).take 64
theorem chunk_length {l : List Nat} {k : Nat} (h : 64 ≤ l.length - 64 * k) : (chunk l k).length = 64 := by simp [chunk]; omega
theorem chunk_lt {l : List Nat} (h : W8 l) (k : Nat) : W8 (chunk l k) := fun a ha => h a (List.mem_of_mem_drop (List.mem_of_mem_take ha))
theorem W8.drop {l : List Nat} (h : W8 l) (k : Nat) : W8 (l.drop k) := fun a ha => h a (List.mem_of_mem_drop ha)
theorem W8.take {l : List Nat} (h : W8 l) (k : Nat) : W8 (l.take k) := fun a ha => h a (List.mem_of_mem_take ha)
theorem W8.append {l m : List Nat} (h : W8 l) (h' : W8 m) : W8 (l ++ m) := fun a ha => (List.mem_append.1 ha).elim (h a) (h' a)
theorem W8.cons {x : Nat} {m : List Nat} (h : x < 256) (h' : W8 m) : W8 (x :: m) := fun a ha => (List.mem_cons.1 ha).elim (fun e => e ▸ h) (h' a)
theorem W8.zeros (n : Nat) : W8 (List.replicate n 0) := fun a ha => by rw [List.eq_of_mem_replicate ha]; omega

theorem wpList_store_int {P : Program} {ops : Array Oper} {rest : List Oper} {o : Oper} {a : Act} {w : World} {Q : Exit → Act → World → Prop} (hgd : o.guard = none) (ty : TypeId) (x y : Operand) (ho : o.op = .store ty x y)
    (g i : Nat) (kd : IntKind) (v : Int) (hx : a.eval x = .pointer (some ⟨g, i, none⟩)) (hy : a.eval y = .int kd v)
    (t : TypeId) (cs : Array Value) (hg : Blk w g t cs) (hi : i < cs.size) (h1 : (P.info? ty).map (·.size) = some 1)
    (h : wpList P ops Q rest (a.put o.dst undef) (w.setCell ⟨g, i, none⟩ (.int kd v))) : wpList P ops Q (o :: rest) a w := by
  refine wpList_plain hgd fun K hK => ?_
  cases hq : P.info? ty with
  | none => simp [hq] at h1
  | some j =>
    have hs : j.size = 1 := by simpa [hq] using h1
    have hc : w.cell? ⟨g, i, none⟩ = some cs[i] := by rw [hg.cell, Array.getElem?_eq_getElem hi]
    have hf := hg.frozen i
    have hst : (storeVar ty ⟨g, i, none⟩ (.int kd v)).run P w = .ok () (w.setCell ⟨g, i, none⟩ (.int kd v)) := by
      simp [storeVar, sizeOf, typeInfo, hq, hs, Value.cells, storeCells, go_sem, stored, hc, hf]
    unfold Oper.wp execOp
    simp only [ho, hx, hy, Instr.storeAt, Instr.sureAddr, Sem.run_bind, Sem.run_pure, Result.andThen_ok, hst]
    exact hK _ _ h
theorem pad_nil_drop (n m : Nat) : (pad n []).drop m = List.replicate (n - m) 0 := by simp [pad]
theorem pad_nil_length (n : Nat) : (pad n []).length = n := by simp [pad]

def Mid (w : World) (st l : List Nat) (ahead : Nat) (wx : World) : Prop := ∃ S Z : List Nat, S.length = 8 ∧ W32 S ∧ Z.length = 64 ∧ W8 Z ∧ Below w.heap.size w wx ∧ Blk wx w.heap.size 36 (U32 S) ∧
  Blk wx (w.heap.size + 1) 24 (B8 (pad 32 [])) ∧ Blk wx (w.heap.size + 1 + 1) 42 (B8 Z) ∧ finishN st ahead l = bytesN (absorbN S (Z.take 56 ++ be8 (8 * (ahead + l.length))))
theorem lastBlk_lt {l : List Nat} (h : W8 l) : W8 (lastBlk l) := (h.drop _).append (W8.cons (by omega) (W8.zeros _))
set_option maxRecDepth 100000 in
set_option maxHeartbeats 2000000 in
theorem finish_any (st l : List Nat) (ahead : Nat) (A : Option Addr) (c : Nat) (w : World) (hs : st.length = 8) (hs' : W32 st) (hl' : W8 l) (hr : Rd w w.heap.size A l) (hc : l.length ≤ c) (hbig : l.length + ahead < 1000000) :
    Calls Try.prog 17 #[.agg (U32 st), .int .u64 ahead, .slice A l.length c] w fun e w' => e = .returned (.agg (B8 (finishN st ahead l))) ∧ Below w.heap.size w w' := by
  have HS := Lib.hid hs; have HS' := Lib.hid hs'; have HL' := Lib.hid hl'; have HR := Lib.hid hr
  clear hs hs' hl' hr
  go_enter Try.func17, Try.ntmps17
  go_wp2
  go_loopw [2] (fun s wr => ∃ (k : Nat) (A : Option Addr) (c : Nat), 64 * k ≤ l.length ∧ s = .slice A (l.length - 64 * k) c ∧ l.length - 64 * k ≤ c ∧ Rd w w.heap.size A (l.drop (64 * k)) ∧ Below w.heap.size w wr ∧
      Blk wr w.heap.size 36 (U32 (absorbK st l k)) ∧ Blk wr (w.heap.size + 1) 24 (B8 (pad 32 [])) ∧ ∃ blk : List Nat, blk.length = 64 ∧ Blk wr (w.heap.size + 1 + 1) 42 (B8 blk)) (fun s _ => match s with | .slice _ n _ => n | _ => 0)
  case atStart =>
    refine ⟨0, A, c, by omega, rfl, by omega, HR.out, (((Below.refl _ _).alloc (Nat.le_refl _) _).alloc (by simp) _).alloc (by simp; omega) _, ((Blk.new _ _ _).alloc _).alloc _, ?_, pad 64 [], pad_nil_length _, ?_⟩
    · have := (Blk.new (w.alloc (Obj.cells (U32 st) 36)) 24 (B8 (pad 32 []))).alloc (Obj.cells (B8 (pad 64 [])) 42)
      rw [show (w.alloc (Obj.cells (U32 st) 36)).heap.size = w.heap.size + 1 from by simp] at this
      exact this
    · have := Blk.new ((w.alloc (Obj.cells (U32 st) 36)).alloc (Obj.cells (B8 (pad 32 [])) 24)) 42 (B8 (pad 64 []))
      rw [show ((w.alloc (Obj.cells (U32 st) 36)).alloc (Obj.cells (B8 (pad 32 [])) 24)).heap.size = w.heap.size + 1 + 1 from by simp] at this
      exact this
  case round =>
    obtain ⟨k, A, c, hk, rfl, hc, hr, hbel, hb0, hb1, blk, hblk, hb2⟩ := hrel
    have HBEL := Lib.hid hbel; have H0 := Lib.hid hb0; have H1 := Lib.hid hb1; have H2 := Lib.hid hb2; have HR := Lib.hid hr; have HBK := Lib.hid hblk
    clear hbel hb0 hb1 hb2 hr hblk
    by_cases hlt : l.length - 64 * k < 64
    · have hk' : k = l.length / 64 := by omega
      obtain ⟨r, hrr⟩ : ∃ r, r = l.drop (64 * k) := ⟨_, rfl⟩
      have hnr : l.length - 64 * k = r.length := by rw [hrr, List.length_drop]
      have hr' := HR.out
      rw [← hrr] at hr'
      rw [hnr] at hlt hc ⊢
      have hX : r.take 64 ++ (pad 64 []).drop r.length = pad 64 r := by
        rw [List.take_of_length_le (by omega), pad_nil_drop]; rfl
      have HX := Lib.hid hX; have HK := Lib.hid hk'; have HRR := Lib.hid hrr; have HNR := Lib.hid hnr
      replace HR := Lib.hid hr'
      clear hX hk' hrr hnr hr'
      have rl : (pad 64 r).length = 64 := pad_length (by omega)
      have RL := Lib.hid rl
      clear rl
      go_upto_region 9 with (first
        | (refine wpList_build_to rfl 42 _ rfl (B8 (pad 64 [])) (by kernel_rfl) ?_)
        | (refine wpList_store_blk rfl 42 (.tmp 8) (.tmp 28) rfl (w.heap.size + 1 + 1) (B8 (pad 64 [])) rfl rfl 42 _ 64 H2.out info42 (by rw [B8_size, pad_nil_length]) (by rw [B8_size, HBK.out]) (B8_one _) ?_)
        | (refine wpList_copy8 rfl (.tmp 29) (.tmp 30) rfl (w.heap.size + 1 + 1) 64 A _ c rfl rfl 42 (pad 64 []) r w.heap.size (H2.out.row _) (pad_nil_length _) rfl (HR.out.below (below_setRow HBEL.out (by omega) _)) (pad 64 r) HX.out (r.length : Int) (by omega) ?_))
      have k0 : Blk ((wr.setRow (w.heap.size + 1 + 1) (B8 (pad 64 []))).setRow (w.heap.size + 1 + 1) (B8 (pad 64 r))) w.heap.size 36 (U32 (absorbK st l k)) := (H0.out.rowFar (by omega) _).rowFar (by omega) _
      have k1 : Blk ((wr.setRow (w.heap.size + 1 + 1) (B8 (pad 64 []))).setRow (w.heap.size + 1 + 1) (B8 (pad 64 r))) (w.heap.size + 1) 24 (B8 (pad 32 [])) := (H1.out.rowFar (by omega) _).rowFar (by omega) _
      have k2 : Blk ((wr.setRow (w.heap.size + 1 + 1) (B8 (pad 64 []))).setRow (w.heap.size + 1 + 1) (B8 (pad 64 r))) (w.heap.size + 1 + 1) 42 (B8 (pad 64 r)) := (H2.out.row _).row _
      have kb : Below w.heap.size w ((wr.setRow (w.heap.size + 1 + 1) (B8 (pad 64 []))).setRow (w.heap.size + 1 + 1) (B8 (pad 64 r))) := below_setRow (below_setRow HBEL.out (by omega) _) (by omega) _
      generalize (wr.setRow (w.heap.size + 1 + 1) (B8 (pad 64 []))).setRow (w.heap.size + 1 + 1) (B8 (pad 64 r)) = W1 at *
      clear H0 H1 H2 HBEL HR HX HBK
      have cN : W1.cell? ⟨w.heap.size + 1 + 1, r.length, none⟩ = some (.int .u8 ((at0 (pad 64 r) r.length : Nat) : Int)) := by rw [k2.cell, B8_get (by rw [RL.out]; exact hlt)]
      have fN := k2.frozen r.length
      have K0 := Lib.hid k0; have K1 := Lib.hid k1; have K2 := Lib.hid k2; have KB := Lib.hid kb
      clear k0 k1 k2 kb
      go_upto_if 35 with fail
      have e2 : (pad 64 r).set r.length 128 = lastBlk l := by
        have hm : l.length % 64 = r.length := by have := HNR.out; have := HK.out; omega
        unfold pad lastBlk
        rw [List.set_append_right (h := Nat.le_refl _), Nat.sub_self, show 64 - r.length = (63 - r.length) + 1 by omega, List.replicate_succ, List.set_cons_zero, hm, ← HK.out, ← HRR.out]
      have m2 := K2.out.set8 r.length 128 128 rfl
      rw [e2] at m2
      have m0 := K0.out.far (p := ⟨w.heap.size + 1 + 1, r.length, none⟩) (by simp; omega) (.int .u8 128)
      have m1 := K1.out.far (p := ⟨w.heap.size + 1 + 1, r.length, none⟩) (by simp) (.int .u8 128)
      have mb := KB.out.setCell (p := ⟨w.heap.size + 1 + 1, r.length, none⟩) (by simp; omega) (.int .u8 128)
      generalize W1.setCell ⟨w.heap.size + 1 + 1, r.length, none⟩ (.int .u8 128) = W2 at *
      replace K0 := Lib.hid m0; replace K1 := Lib.hid m1; replace K2 := Lib.hid m2; replace KB := Lib.hid mb
      clear m0 m1 m2 mb e2 cN fN
      go_cut [9] (fun s wx => s = .int .i64 r.length ∧ Mid w st l ahead wx)
      case first =>
        by_cases h56 : r.length < 56
        · have h56' : (r.length : Int) < 56 := by omega
          go_wp2
          go_meet
          exact ⟨rfl, absorbK st l k, lastBlk l, absorbK_length HS.out k, absorbK_lt HS'.out k, lastBlk_length l, lastBlk_lt HL'.out, KB.out, K0.out, K1.out, K2.out, by
            rw [HK.out]; exact finishN_lo st ahead l (by have := HNR.out; have := HK.out; omega)⟩
        · have h56' : (56 : Int) ≤ (r.length : Int) := by omega
          have h56'' : 56 ≤ r.length := by omega
          go_wp2_with (first
            | (refine wpList_load_blk rfl 36 (.tmp 3) rfl w.heap.size rfl 36 (U32 (absorbK st l k)) _ 8 K0.out Try.underlying36 rfl info36 (by rw [U32_size, absorbK_length HS.out]) ?_)
            | (refine wpList_load_blk rfl 42 (.tmp 8) rfl (w.heap.size + 1 + 1) rfl 42 (B8 (lastBlk l)) _ 64 K2.out Try.underlying42 rfl info42 (by rw [B8_size, lastBlk_length]) ?_))
          refine (absorb_any _ _ _ (absorbK_length HS.out k) (absorbK_lt HS'.out k) (lastBlk_length l) (lastBlk_lt HL'.out)).mono ?_
          rintro e w4 ⟨rfl, hb4⟩
          have hlt2 := K2.out.lt
          have j0 : Blk w4 w.heap.size 36 (U32 (absorbK st l k)) := K0.out.below hb4 (by omega)
          have j1 : Blk w4 (w.heap.size + 1) 24 (B8 (pad 32 [])) := K1.out.below hb4 (by omega)
          have j2 : Blk w4 (w.heap.size + 1 + 1) 42 (B8 (lastBlk l)) := K2.out.below hb4 (by omega)
          have jb : Below w.heap.size w w4 := KB.out.trans (hb4.mono (by omega))
          replace j0 := Lib.hid j0; replace j1 := Lib.hid j1; replace j2 := Lib.hid j2; replace jb := Lib.hid jb
          clear hb4 hlt2
          go_wp2_with (first
            | (refine wpList_store_blk rfl 36 (.tmp 3) (.tmp 38) rfl w.heap.size (U32 (absorbN (absorbK st l k) (lastBlk l))) rfl rfl 36 _ 8 j0.out info36 (by rw [U32_size]; rfl) (by rw [U32_size, absorbK_length HS.out]) (U32_one _) ?_)
            | (refine wpList_build_to rfl 42 _ rfl (B8 (pad 64 [])) (by kernel_rfl) ?_)
            | (refine wpList_store_blk rfl 42 (.tmp 8) (.tmp 39) rfl (w.heap.size + 1 + 1) (B8 (pad 64 [])) rfl rfl 42 _ 64 (j2.out.rowFar (by omega) _) info42 (by rw [B8_size, pad_nil_length]) (by rw [B8_size, lastBlk_length]) (B8_one _) ?_))
          go_meet
          refine ⟨rfl, absorbN (absorbK st l k) (lastBlk l), pad 64 [], addS_length _ _, addS_lt _ _, pad_nil_length _, ?_, below_setRow (below_setRow jb.out (by omega) _) (by omega) _, (j0.out.row _).rowFar (by omega) _, (j1.out.rowFar (by omega) _).rowFar (by omega) _, (j2.out.rowFar (by omega) _).row _, ?_⟩
          · unfold pad; exact W8.zeros _
          · rw [HK.out, finishN_hi st ahead l (by have := HNR.out; have := HK.out; omega)]; rfl
      case rest =>
        obtain ⟨rfl, S, Z, hS, hS', hZ, hZ', mb, m0, m1, m2, hfin⟩ := hcut
        clear K0 K1 K2 KB
        replace hS := Lib.hid hS; replace hS' := Lib.hid hS'; replace hZ := Lib.hid hZ; replace hZ' := Lib.hid hZ'; replace hfin := Lib.hid hfin
        have K0 := Lib.hid m0; have K1 := Lib.hid m1; have K2 := Lib.hid m2; have KB := Lib.hid mb
        clear m0 m1 m2 mb
        go_wp2
        obtain ⟨X, hXe⟩ : ∃ X, X = Z.take 56 ++ be8 (8 * (ahead + l.length)) := ⟨_, rfl⟩
        have hXl : X.length = 64 := by rw [hXe, List.length_append, be8_length, List.length_take, hZ.out]; rfl
        have hX8 : W8 X := by rw [hXe]; exact (hZ'.out.take 56).append (be8_lt _)
        have hXat : ∀ k, k < 8 → at0 X (56 + k) = 8 * (ahead + l.length) / 2 ^ (56 - 8 * k) % 256 := fun k hk => by
          have h56 : (Z.take 56).length = 56 := by rw [List.length_take, hZ.out]; rfl
          rw [hXe, at0_append_right (by omega), h56, Nat.add_sub_cancel_left, at0_be8 _ _ hk]
        have hstart : X.take 56 ++ Z.drop 56 = Z := by
          have h56 : (Z.take 56).length = 56 := by rw [List.length_take, hZ.out]; rfl
          rw [hXe, List.take_append_of_le_length (by omega), List.take_of_length_le (by omega), List.take_append_drop]
        have HX := Lib.hid hXe; have HXL := Lib.hid hXl; have HX8 := Lib.hid hX8; have HXA := Lib.hid hXat; have HST := Lib.hid hstart
        clear hXe hXl hX8 hXat hstart
        go_loopw [40] (fun i wr => ∃ k : Nat, k ≤ 8 ∧ i = .int .i64 k ∧ Below w.heap.size w wr ∧ Blk wr w.heap.size 36 (U32 S) ∧ Blk wr (w.heap.size + 1) 24 (B8 (pad 32 [])) ∧ Blk wr (w.heap.size + 1 + 1) 42 (B8 (X.take (56 + k) ++ Z.drop (56 + k)))) (fun i _ => 8 - (intOf i).toNat)
        case atStart => exact ⟨0, by omega, rfl, KB.out, K0.out, K1.out, by rw [Nat.add_zero, HST.out]; exact K2.out⟩
        case round =>
          obtain ⟨i, hi, rfl, qb, q0, q1, q2⟩ := hrel
          clear K0 K1 K2 KB
          have K0 := Lib.hid q0; have K1 := Lib.hid q1; have K2 := Lib.hid q2; have KB := Lib.hid qb
          clear q0 q1 q2 qb
          by_cases hi8 : i < 8
          · have cN := K2.out.cell (56 + i)
            rw [B8_get (by simp [HXL.out, hZ.out]; omega)] at cN
            have fN := K2.out.frozen (56 + i)
            have z1 : (0 : Int) ≤ 56 - 8 * (i : Int) := by omega
            have z2 : (56 - 8 * (i : Int)).toNat = 56 - 8 * i := by omega
            have z3 : (56 + (i : Int)).toNat = 56 + i := by omega
            have z4 : 8 * (i : Int) ≤ 56 := by omega
            have z5 : 56 + (i : Int) < 64 := by omega
            go_wp2
            have hv : ((ahead : Int) + (l.length : Int)) * 8 / 2 ^ (56 - 8 * i) % 256 = ((at0 X (56 + i) : Nat) : Int) := by
              rw [HXA.out i hi8]
              simp [Int.mul_comm]
            have p2 := K2.out.set8 (56 + i) (at0 X (56 + i)) _ hv
            rw [set_mid _ _ _ (by rw [HXL.out]; omega) (by rw [hZ.out]; omega)] at p2
            exact ⟨⟨i + 1, by omega, by go_num, KB.out.setCell (by simp; omega) _, K0.out.far (by simp; omega) _, K1.out.far (by simp) _, p2⟩, by simp [intOf]; omega⟩
          · obtain rfl : i = 8 := by omega
            have e64 : X.take (56 + 8) ++ Z.drop (56 + 8) = X := by
              rw [List.take_of_length_le (by rw [HXL.out]; omega), List.drop_of_length_le (by rw [hZ.out]; omega), List.append_nil]
            have q2 := K2.out
            rw [e64] at q2
            replace K2 := Lib.hid q2
            clear q2 e64
            go_wp2_with (first
              | (refine wpList_load_blk rfl 36 (.tmp 3) rfl w.heap.size rfl 36 (U32 S) _ 8 K0.out Try.underlying36 rfl info36 (by rw [U32_size, hS.out]) ?_)
              | (refine wpList_load_blk rfl 42 (.tmp 8) rfl (w.heap.size + 1 + 1) rfl 42 (B8 X) _ 64 K2.out Try.underlying42 rfl info42 (by rw [B8_size, HXL.out]) ?_))
            refine (absorb_any _ _ _ hS.out hS'.out HXL.out HX8.out).mono ?_
            rintro e w4 ⟨rfl, hb4⟩
            have hlt2 := K2.out.lt
            have j1 : Blk w4 (w.heap.size + 1) 24 (B8 (pad 32 [])) := K1.out.below hb4 (by omega)
            have jb : Below w.heap.size w w4 := KB.out.trans (hb4.mono (by omega))
            replace j1 := Lib.hid j1; replace jb := Lib.hid jb
            clear hb4 hlt2
            go_wp2_with fail
            refine (bytesOf_any _ _ (addS_length _ _) (addS_lt _ _)).mono ?_
            rintro e w5 ⟨rfl, hb5⟩
            have hlt2 := j1.out.lt
            have hsz := jb.out.size
            have y1 : Blk w5 (w.heap.size + 1) 24 (B8 (pad 32 [])) := j1.out.below hb5 (by omega)
            have yb : Below w.heap.size w w5 := jb.out.trans (hb5.mono (by omega))
            replace y1 := Lib.hid y1; replace yb := Lib.hid yb
            clear hb5 hlt2 hsz
            go_wp2_with (refine wpList_store_blk rfl 24 (.tmp 6) (.tmp 56) rfl (w.heap.size + 1) (B8 (bytesN (absorbN S X))) rfl rfl 24 _ 32 y1.out info24 (by rw [B8_size, bytesN_length]) (by rw [B8_size, pad_nil_length]) (B8_one _) ?_)
            refine bodyPost_ret (results_cell_row (P := Try.prog) (fn := Try.f17) rfl _ _ (w.heap.size + 1) 24 (B8 (bytesN (absorbN S X))) (0, 0) _ rfl (y1.out.row _) Try.underlying24 rfl (by rw [B8_size, bytesN_length]; exact info24)) rfl ⟨?_, below_setRow yb.out (by omega) _⟩
            rw [hfin.out, HX.out]
    · have hge : 64 ≤ l.length - 64 * k := by omega
      have hge' : (64 : Int) ≤ ((l.length - 64 * k : Nat) : Int) := by omega
      have hX : (l.drop (64 * k)).take 64 ++ blk.drop (l.drop (64 * k)).length = chunk l k := by
        rw [List.drop_of_length_le (i := (l.drop (64 * k)).length) (by rw [List.length_drop, HBK.out]; omega), List.append_nil]; rfl
      have HX := Lib.hid hX
      clear hX
      go_wp2_with (first
        | (refine wpList_copy8 rfl _ _ rfl (w.heap.size + 1 + 1) 64 A _ c rfl rfl 42 blk (l.drop (64 * k)) w.heap.size H2.out HBK.out (by rw [List.length_drop]) (HR.out.below HBEL.out) (chunk l k) HX.out 64 (by omega) ?_)
        | (refine wpList_load_blk rfl 36 _ rfl w.heap.size rfl 36 (U32 (absorbK st l k)) _ 8 (H0.out.rowFar (by omega) _) Try.underlying36 rfl info36 (by rw [U32_size, absorbK_length HS.out]) ?_)
        | (refine wpList_load_blk rfl 42 _ rfl (w.heap.size + 1 + 1) rfl 42 (B8 (chunk l k)) _ 64 (H2.out.row _) Try.underlying42 rfl info42 (by rw [B8_size, chunk_length hge]) ?_))
      refine (absorb_any _ _ _ (absorbK_length HS.out k) (absorbK_lt HS'.out k) (chunk_length hge) (chunk_lt HL'.out k)).mono ?_
      rintro e w4 ⟨rfl, hb4⟩
      have hsz : (wr.setRow (w.heap.size + 1 + 1) (B8 (chunk l k))).heap.size = wr.heap.size := by simp
      rw [hsz] at hb4
      have hlt2 := H2.out.lt
      have j0 : Blk w4 w.heap.size 36 (U32 (absorbK st l k)) := (H0.out.rowFar (by omega) _).below hb4 (by omega)
      have j1 : Blk w4 (w.heap.size + 1) 24 (B8 (pad 32 [])) := (H1.out.rowFar (by omega) _).below hb4 (by omega)
      have j2 : Blk w4 (w.heap.size + 1 + 1) 42 (B8 (chunk l k)) := (H2.out.row _).below hb4 (by omega)
      have jb : Below w.heap.size w w4 := (below_setRow HBEL.out (by omega) _).trans (hb4.mono (by omega))
      replace j0 := Lib.hid j0; replace j1 := Lib.hid j1; replace j2 := Lib.hid j2; replace jb := Lib.hid jb
      clear hb4 hsz hlt2
      go_wp2_with (refine wpList_store_blk rfl 36 _ _ rfl w.heap.size (U32 (absorbN (absorbK st l k) (chunk l k))) rfl rfl 36 _ 8 j0.out info36 (by rw [U32_size]; rfl) (by rw [U32_size, absorbK_length HS.out]) (U32_one _) ?_)
      refine ⟨⟨k + 1, _, _, by omega, by rw [show l.length - 64 * (k + 1) = l.length - 64 * k - 64 by omega], by omega, ?_, below_setRow jb.out (by omega) _, j0.out.row _, j1.out.rowFar (by omega) _, chunk l k, chunk_length hge, j2.out.rowFar (by omega) _⟩, ?_⟩
      · have := HR.out.cut (k := 64) (c := c) (by rw [List.length_drop]; omega) (by rw [List.length_drop]; omega)
        rw [List.drop_drop, show 64 * k + 64 = 64 * (k + 1) by omega] at this
        simpa [Addr.add] using this
      · simp; omega

theorem finishN_length (st : List Nat) (a : Nat) (l : List Nat) : (finishN st a l).length = 32 := bytesN_length _
theorem finishN_lt (st : List Nat) (a : Nat) (l : List Nat) : W8 (finishN st a l) := bytesN_lt _
theorem initN_length : initN.length = 8 := rfl
theorem initN_lt : W32 initN := by unfold W32; decide +kernel

set_option maxHeartbeats 1000000 in
theorem sum_any (l : List Nat) (A : Option Addr) (c : Nat) (w : World) (hl' : W8 l) (hr : Rd w w.heap.size A l) (hc : l.length ≤ c) (hbig : l.length < 1000000) :
    Calls Try.prog 12 #[.slice A l.length c] w fun e w' => e = .returned (.agg (B8 (sumN l))) ∧ Below w.heap.size w w' := by
  have HL' := Lib.hid hl'; have HR := Lib.hid hr
  clear hl' hr
  go_enter Try.func12, Try.ntmps12
  go_wp2_with fail
  refine (initial_any _).mono ?_
  rintro e w1 ⟨rfl, hb1⟩
  have bR : Blk w1 w.heap.size 24 (B8 (pad 32 [])) := (Blk.new w 24 (B8 (pad 32 []))).below hb1 (by simp)
  have bel1 : Below w.heap.size w w1 := ((Below.refl w.heap.size w).alloc (Nat.le_refl _) _).trans (hb1.mono (by simp))
  have sz1 : w.heap.size + 1 ≤ w1.heap.size := by have := hb1.size; simpa using this
  replace bR := Lib.hid bR; replace bel1 := Lib.hid bel1
  clear hb1
  go_wp2_with fail
  refine (finish_any initN l 0 A c _ initN_length initN_lt HL'.out ((HR.out.below bel1.out).more (by omega)) hc (by omega)).mono ?_
  rintro e w2 ⟨rfl, hb2⟩
  have cR : Blk w2 w.heap.size 24 (B8 (pad 32 [])) := bR.out.below hb2 (by omega)
  have bel2 : Below w.heap.size w w2 := bel1.out.trans (hb2.mono (by omega))
  replace cR := Lib.hid cR; replace bel2 := Lib.hid bel2
  clear hb2
  go_wp2_with (refine wpList_store_blk rfl 24 (.tmp 2) (.tmp 5) rfl w.heap.size (B8 (finishN initN 0 l)) rfl rfl 24 _ 32 cR.out info24 (by rw [B8_size, finishN_length]) (by rw [B8_size, pad_nil_length]) (B8_one _) ?_)
  exact bodyPost_ret (results_cell_row (P := Try.prog) (fn := Try.f12) rfl _ _ w.heap.size 24 (B8 (finishN initN 0 l)) (0, 0) _ rfl (cR.out.row _) Try.underlying24 rfl (by rw [B8_size, finishN_length]; exact info24)) rfl ⟨rfl, below_setRow bel2.out (by omega) _⟩
end Go.Proofs.Ytiigbhpnlpbnjaa
