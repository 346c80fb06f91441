import Derived.Test.YtiigbhpnlpbnjaaRb
namespace Go.Proofs.Ytiigbhpnlpbnjaa
open Go.RowKit

def OwnQ (w : World) (base : Nat) (v : Value) (l : List Nat) : Prop := w.ownsRow base 38 1 v l.length (U64 l).toList
theorem OwnQ.form {w : World} {base : Nat} {v : Value} {l : List Nat} (h : OwnQ w base v l) (h0 : 0 < l.length) : ∃ g c, v = .slice (some ⟨g, 0, none⟩) l.length c ∧ l.length ≤ c ∧ base ≤ g ∧ g < w.heap.size ∧ ∀ j, j < l.length → w.cell? ⟨g, j, none⟩ = some (.int .u64 ((at0 l j : Nat) : Int)) := by
  rcases h.2 with ⟨rfl, hn⟩ | ⟨g, cap, cur, rfl, hb, hg, hc, _, _, _⟩
  · omega
  · refine ⟨g, cap, rfl, hc, hb, (Array.getElem?_eq_some_iff.1 hg).1, fun j hj => ?_⟩
    have := h.cells (g := g) rfl j (.int .u64 ((at0 l j : Nat) : Int)) (by rw [U64_list, List.getElem?_map, List.getElem?_eq_getElem hj, at0_eq hj]; rfl)
    have hadd : (⟨g, 0, none⟩ : Addr).add j = ⟨g, j, none⟩ := by unfold Addr.add; split <;> simp_all
    rwa [hadd] at this
theorem OwnQ.below {w w' : World} {base : Nat} {v : Value} {l : List Nat} (h : OwnQ w base v l) (hb : Below w.heap.size w w') : OwnQ w' base v l := by
  refine ⟨h.1, ?_⟩
  rcases h.2 with hn | ⟨g, cap, cur, rfl, hbg, hg, r⟩
  · exact .inl hn
  · exact .inr ⟨g, cap, cur, rfl, hbg, by rw [hb.block g (Array.getElem?_eq_some_iff.1 hg).1]; exact hg, r⟩
theorem OwnQ.nil (w : World) (base : Nat) : OwnQ w base (.slice none 0 0) [] := World.ownsRow_nil w base 38 1
theorem info38p : (Try.prog.info? 38).map (fun i => (i.zero, i.size, i.bytes)) = some (some (.int .u64 0), 1, 8) := by kernel_rfl
theorem U64_oneCell (l : List Nat) : ∀ v ∈ (U64 l).toList, v.oneCell' = true := by
  intro v hv
  simp only [U64, List.mem_map] at hv
  obtain ⟨x, _, rfl⟩ := hv
  rfl
theorem run_appQ {w : World} {base : Nat} {ty : TypeId} {v : Value} {l : List Nat} (hown : OwnQ w base v l) (g x : Nat) (hx : Blk w g 38 (U64 [x])) (hbig : l.length ≤ 1000000) (hbase : base ≤ w.heap.size) :
    ∃ v' w', (Builtin.append_ #[47, 47] ty #[v, .slice (some ⟨g, 0, none⟩) 1 1]).run Try.prog w = .ok v' w' ∧ OwnQ w' base v' (l ++ [x]) ∧ w.grownBy w' v.ownBlock := by
  have hp := info38p
  cases hi : Try.prog.info? 38 with
  | none => simp [hi] at hp
  | some i =>
    simp only [hi, Option.map_some, Option.some.injEq, Prod.mk.injEq] at hp
    obtain ⟨v', w', hrun, h2, h3, _, _⟩ := run_append_own_at (P := Try.prog) w base 47 ty 38 i (.int .u64 0) 1 8 Try.underlying47 hi hp.1 hp.2.1 hp.2.2 rfl (by omega) v l.length (U64 l).toList hown ⟨g, 0, none⟩ 1 1 (U64 [x]).toList rfl
      (fun j u hu => by
        rw [Array.getElem?_toList, ← hx.cell] at hu
        have hadd : (⟨g, 0, none⟩ : Addr).add j = ⟨g, j, none⟩ := by unfold Addr.add; split <;> simp_all
        rw [hadd]; exact hu) (U64_oneCell [x]) (by unfold maxLen; omega) (by omega) hbase
    refine ⟨v', w', hrun, ?_, h3⟩
    have e : (U64 (l ++ [x])).toList = (U64 l).toList ++ (U64 [x]).toList := by simp [U64_list]
    unfold OwnQ
    rw [e, List.length_append]
    exact h2
theorem wpList_appQ {ops : Array Oper} {rest : List Oper} {o : Oper} {a : Act} {w : World} {Q : Exit → Act → World → Prop} (hgd : o.guard = none) (s y : Operand)
    (ho : o.op = .call { callee := .builtin .append, args := #[s, y], argTypes := #[47, 47] })
    (base : Nat) (v : Value) (l : List Nat) (hs : a.eval s = v) (hown : OwnQ w base v l) (g x : Nat) (hy : a.eval y = .slice (some ⟨g, 0, none⟩) 1 1) (hx : Blk w g 38 (U64 [x]))
    (hbig : l.length ≤ 1000000) (hbase : base ≤ w.heap.size)
    (h : ∀ v' w', OwnQ w' base v' (l ++ [x]) → w.grownBy w' v.ownBlock → wpList Try.prog ops Q rest (a.put o.dst v') w') : wpList Try.prog ops Q (o :: rest) a w :=
  wpList_plain hgd fun _ hK => by
    obtain ⟨v', w', hrun, h2, h3⟩ := run_appQ (ty := o.type) hown g x hx hbig hbase
    unfold Oper.wp execOp
    simp only [ho, resolve, invoke, builtin, Sem.run_bind, Sem.run_pure, Result.andThen_ok, List.map_toArray, List.map_cons, List.map_nil, hs, hy, hrun]
    exact hK _ _ (h v' w' h2 h3)

theorem evalc (a : Act) (x : Value) : a.eval (.const x) = x := rfl
def VQ (vals : List Value) (z : Nat) (i : Nat) (x : Value) (w : World) : Prop :=
  match vals[i]? with
  | some y => x = y
  | none => ∃ g, x = .slice (some ⟨g, 0, none⟩) 1 1 ∧ Blk w g 38 (U64 [z])
theorem VQ_keep (vals : List Value) (z : Nat) (i : Nat) (x : Value) (w w' : World) (h : VQ vals z i x w) (hb : Below w.heap.size w w') : VQ vals z i x w' := by
  unfold VQ at *
  split <;> simp_all
  obtain ⟨g, h1, h2⟩ := h
  exact ⟨g, h1, h2.below hb h2.lt⟩
theorem ow_bsQ {Q : Exit → Act → World → Prop} {o : Oper} {a : Act} {w : World} {V : Value → World → Prop} (y : Operand) (ho : o.op = .buildSlice 47 1 #[(0, y)]) (z : Nat) (hy : a.eval y = .int .u64 (z : Int)) (hv : V (.slice (some ⟨w.heap.size, 0, none⟩) 1 1) (w.alloc (.cells (U64 [z]) 38))) :
    o.wp Try.prog a w (fun a' w' => ∃ x, a' = a.put o.dst x ∧ Below w.heap.size w w' ∧ V x w') Q :=
  ow_value _ _ (by
    unfold execOp
    simp only [ho, List.map_toArray, List.map_cons, List.map_nil, hy]
    go_simp
    rfl) ((Below.refl _ _).alloc (Nat.le_refl _) _) hv

def PQ (base : Nat) (l : List Nat) (w : World) (e : Ending) (w' : World) : Prop := ∃ v, e = .returned v ∧ OwnQ w' base v l ∧ Below w.heap.size w w'

theorem lsig1_lt {x : Nat} (hx : x < 4294967296) : lsig1 x < 4294967296 := xor32 (xor32 (rotr_lt x 17 hx) (rotr_lt x 19 hx)) (Nat.lt_of_le_of_lt (Nat.div_le_self _ _) hx)
theorem lsig0_lt {x : Nat} (hx : x < 4294967296) : lsig0 x < 4294967296 := xor32 (xor32 (rotr_lt x 7 hx) (rotr_lt x 18 hx)) (Nat.lt_of_le_of_lt (Nat.div_le_self _ _) hx)
theorem sig_cast64 {x i j d : Nat} (hx : x < 4294967296) :
    bits BinOp.xor IntKind.u64 (bits BinOp.xor IntKind.u64 (rotr x i : Int) (rotr x j : Int)) ((x : Int) / (d : Int)) = ((rotr x i ^^^ rotr x j ^^^ (x / d) : Nat) : Int) := by
  have h1 := rotr_lt x i hx; have h2 := rotr_lt x j hx; have h3 := xor32 h1 h2
  have h4 : x / d < 4294967296 := Nat.lt_of_le_of_lt (Nat.div_le_self _ _) hx
  rw [← Int.natCast_ediv, u64_xor_nat _ _ (by omega) (by omega), u64_xor_nat _ _ (by omega) (by omega)]
theorem wcast {p2 p7 p15 p16 : Nat} (h2 : p2 < 4294967296) (h7 : p7 < 4294967296) (h15 : p15 < 4294967296) (h16 : p16 < 4294967296) :
    IntKind.u64.wrap (IntKind.u64.wrap (IntKind.u64.wrap (bits BinOp.xor IntKind.u64 (bits BinOp.xor IntKind.u64 (rotr p2 17 : Int) (rotr p2 19 : Int)) ((p2 : Int) / 1024) + (p7 : Int)) +
      bits BinOp.xor IntKind.u64 (bits BinOp.xor IntKind.u64 (rotr p15 7 : Int) (rotr p15 18 : Int)) ((p15 : Int) / 8)) + (p16 : Int)) = ((lsig1 p2 + p7 + lsig0 p15 + p16 : Nat) : Int) := by
  have e1 := sig_cast64 (x := p2) (i := 17) (j := 19) (d := 1024) h2
  have e2 := sig_cast64 (x := p15) (i := 7) (j := 18) (d := 8) h15
  rw [show ((1024 : Nat) : Int) = 1024 from rfl] at e1
  rw [show ((8 : Nat) : Int) = 8 from rfl] at e2
  have hw : ∀ z : Int, IntKind.u64.wrap z = z % 18446744073709551616 := fun z => by simp [IntKind.wrap, IntKind.bits, IntKind.signed]
  have l1 := lsig1_lt h2
  have l2 := lsig0_lt h15
  rw [e1, e2, hw, hw, hw]
  unfold lsig1 lsig0 at *
  omega

set_option maxRecDepth 100000 in
set_option maxHeartbeats 2000000 in
theorem words_any (b : List Nat) (g off c : Nat) (w : World) (hb : b.length = 64) (hb' : W8 b) (hg : g < w.heap.size) (hcell : ∀ j, j < 64 → w.cell? ⟨g, off + j, none⟩ = some (.int .u8 ((at0 b j : Nat) : Int))) :
    Calls Try.prog 25 #[.slice (some ⟨g, off, none⟩) 64 c] w (PQ w.heap.size (wordsN b 64) w) := by
  have HB := Lib.hid hb; have HB' := Lib.hid hb'; have HC := Lib.hid hcell
  clear hb hb' hcell
  go_enter Try.func25, Try.ntmps25
  go_wp2
  go_loopw [3, 4] (fun s i wr => ∃ k : Nat, k ≤ 16 ∧ i = .int .i64 k ∧ OwnQ wr w.heap.size s (wordsN b k) ∧ Below w.heap.size w wr) (fun _ i _ => 16 - (intOf i).toNat)
  case atStart => exact ⟨0, by omega, rfl, OwnQ.nil _ _, Below.refl _ _⟩
  case round =>
    obtain ⟨k, hk, rfl, hown, hbel⟩ := hrel
    have O3 := Lib.hid hown; have BEL := Lib.hid hbel
    clear hown hbel
    by_cases hlt : k < 16
    · have hlt' : (k : Int) < 16 := by omega
      obtain ⟨i0, hi0⟩ : ∃ n, n = 4 * k := ⟨_, rfl⟩
      obtain ⟨i1, hi1⟩ : ∃ n, n = 4 * k + 1 := ⟨_, rfl⟩
      obtain ⟨i2, hi2⟩ : ∃ n, n = 4 * k + 2 := ⟨_, rfl⟩
      obtain ⟨i3, hi3⟩ : ∃ n, n = 4 * k + 3 := ⟨_, rfl⟩
      have f0 : IntKind.i64.wrap (4 * (k : Int)) = (i0 : Int) := by rw [IntWalk.i64_in _ (by omega)]; omega
      have f1 : IntKind.i64.wrap ((i0 : Int) + 1) = (i1 : Int) := by rw [IntWalk.i64_in _ (by omega)]; omega
      have f2 : IntKind.i64.wrap ((i0 : Int) + 2) = (i2 : Int) := by rw [IntWalk.i64_in _ (by omega)]; omega
      have f3 : IntKind.i64.wrap ((i0 : Int) + 3) = (i3 : Int) := by rw [IntWalk.i64_in _ (by omega)]; omega
      obtain ⟨x0, hx0⟩ : ∃ n, n = at0 b i0 := ⟨_, rfl⟩
      obtain ⟨x1, hx1⟩ : ∃ n, n = at0 b i1 := ⟨_, rfl⟩
      obtain ⟨x2, hx2⟩ : ∃ n, n = at0 b i2 := ⟨_, rfl⟩
      obtain ⟨x3, hx3⟩ : ∃ n, n = at0 b i3 := ⟨_, rfl⟩
      have r0 : i0 < 64 := by omega
      have r1 : i1 < 64 := by omega
      have r2 : i2 < 64 := by omega
      have r3 : i3 < 64 := by omega
      have r0' : (i0 : Int) < 64 := by omega
      have r1' : (i1 : Int) < 64 := by omega
      have r2' : (i2 : Int) < 64 := by omega
      have r3' : (i3 : Int) < 64 := by omega
      have q0 := HC.out i0 r0; have q1 := HC.out i1 r1; have q2 := HC.out i2 r2; have q3 := HC.out i3 r3
      rw [← hx0] at q0; rw [← hx1] at q1; rw [← hx2] at q2; rw [← hx3] at q3
      have m0 : x0 < 256 := by rw [hx0]; exact HB'.out.at _
      have m1 : x1 < 256 := by rw [hx1]; exact HB'.out.at _
      have m2 : x2 < 256 := by rw [hx2]; exact HB'.out.at _
      have m3 : x3 < 256 := by rw [hx3]; exact HB'.out.at _
      have hw64 : ∀ z : Int, IntKind.u64.wrap z = z % 18446744073709551616 := fun z => by simp [IntKind.wrap, IntKind.bits, IntKind.signed]
      obtain ⟨y0, hy0⟩ : ∃ n, n = x0 * 16777216 := ⟨_, rfl⟩
      obtain ⟨y1, hy1⟩ : ∃ n, n = x1 * 65536 := ⟨_, rfl⟩
      obtain ⟨y2, hy2⟩ : ∃ n, n = x2 * 256 := ⟨_, rfl⟩
      obtain ⟨z1, hz1⟩ : ∃ n, n = y0 + y1 := ⟨_, rfl⟩
      obtain ⟨z2, hz2⟩ : ∃ n, n = z1 + y2 := ⟨_, rfl⟩
      obtain ⟨z3, hz3⟩ : ∃ n, n = z2 + x3 := ⟨_, rfl⟩
      have hword : z3 = word b k := by unfold word; rw [← hi3, ← hi2, ← hi1, ← hi0, ← hx0, ← hx1, ← hx2, ← hx3]; omega
      have c0 : IntKind.u64.wrap (x0 : Int) = (x0 : Int) := by rw [hw64]; omega
      have c1 : IntKind.u64.wrap (x1 : Int) = (x1 : Int) := by rw [hw64]; omega
      have c2 : IntKind.u64.wrap (x2 : Int) = (x2 : Int) := by rw [hw64]; omega
      have c3 : IntKind.u64.wrap (x3 : Int) = (x3 : Int) := by rw [hw64]; omega
      have d0 : IntKind.u64.wrap ((x0 : Int) * 16777216) = (y0 : Int) := by rw [hw64]; omega
      have d1 : IntKind.u64.wrap ((x1 : Int) * 65536) = (y1 : Int) := by rw [hw64]; omega
      have d2 : IntKind.u64.wrap ((x2 : Int) * 256) = (y2 : Int) := by rw [hw64]; omega
      have g1 : IntKind.u64.wrap ((y0 : Int) + (y1 : Int)) = (z1 : Int) := by rw [hw64]; omega
      have g2 : IntKind.u64.wrap ((z1 : Int) + (y2 : Int)) = (z2 : Int) := by rw [hw64]; omega
      have g3 : IntKind.u64.wrap ((z2 : Int) + (x3 : Int)) = (z3 : Int) := by rw [hw64]; omega
      have HW := Lib.hid hword
      clear hi0 hi1 hi2 hi3 hx0 hx1 hx2 hx3 hy0 hy1 hy2 hz1 hz2 hz3 hword hw64
      go_upto_region 5 with fail
      refine region_relG 35 (VQ [u3, Value.slice (some ⟨g, off, none⟩) 64 c, Value.int .i64 (k : Int), Value.int .i64 (i0 : Int), Value.pointer (some ⟨g, off + i0, none⟩), Value.int .u8 (x0 : Int), Value.int .u64 (x0 : Int), Value.int .u64 (y0 : Int), Value.slice (some ⟨g, off, none⟩) 64 c, Value.int .i64 (k : Int), Value.int .i64 (i0 : Int), Value.int .i64 (i1 : Int), Value.pointer (some ⟨g, off + i1, none⟩), Value.int .u8 (x1 : Int), Value.int .u64 (x1 : Int), Value.int .u64 (y1 : Int), Value.int .u64 (z1 : Int), Value.slice (some ⟨g, off, none⟩) 64 c, Value.int .i64 (k : Int), Value.int .i64 (i0 : Int), Value.int .i64 (i2 : Int), Value.pointer (some ⟨g, off + i2, none⟩), Value.int .u8 (x2 : Int), Value.int .u64 (x2 : Int), Value.int .u64 (y2 : Int), Value.int .u64 (z2 : Int), Value.slice (some ⟨g, off, none⟩) 64 c, Value.int .i64 (k : Int), Value.int .i64 (i0 : Int), Value.int .i64 (i3 : Int), Value.pointer (some ⟨g, off + i3, none⟩), Value.int .u8 (x3 : Int), Value.int .u64 (x3 : Int), Value.int .u64 (z3 : Int)] z3) (by kernel_rfl) (by kernel_rfl) rfl (VQ_keep _ _) ?_ ?_
      · intro i o hi a v w' hb hv ht hout
        have hbw := BEL.out.trans (hb.mono BEL.out.size)
        rw [← hbw.cell (p := ⟨g, off + i0, none⟩) hg] at q0
        rw [← hbw.cell (p := ⟨g, off + i1, none⟩) hg] at q1
        rw [← hbw.cell (p := ⟨g, off + i2, none⟩) hg] at q2
        rw [← hbw.cell (p := ⟨g, off + i3, none⟩) hg] at q3
        clear hb hbw
        rcases i with _ | _ | _ | _ | _ | _ | _ | _ | _ | _ | _ | _ | _ | _ | _ | _ | _ | _ | _ | _ | _ | _ | _ | _ | _ | _ | _ | _ | _ | _ | _ | _ | _ | _ | _ | i
        · obtain rfl := Option.some.inj hi
          exact ⟨rfl, ow_move (.tmp 3) rfl (hout 3 (by kernel_rfl))⟩
        · obtain rfl := Option.some.inj hi
          exact ⟨rfl, ow_move (.tmp 0) rfl (hout 0 (by kernel_rfl))⟩
        · obtain rfl := Option.some.inj hi
          exact ⟨rfl, ow_move (.tmp 4) rfl (hout 4 (by kernel_rfl))⟩
        · obtain rfl := Option.some.inj hi
          have e2 : v 2 = Value.int .i64 (k : Int) := hv 2 (by kernel_rfl)
          have t2 := ht 2 _ 15 (by kernel_rfl) rfl rfl
          have s2 : a.eval (.tmp 15) = Value.int .i64 (k : Int) := t2.trans e2
          clear e2 t2 hv ht hout hi
          exact ⟨rfl, ow_value (Value.int .i64 (i0 : Int)) w' (by unfold execOp; simp only [s2, evalc]; clear s2; go_simp) (Below.refl _ _) rfl⟩
        · obtain rfl := Option.some.inj hi
          have e1 : v 1 = Value.slice (some ⟨g, off, none⟩) 64 c := hv 1 (by kernel_rfl)
          have t1 := ht 1 _ 14 (by kernel_rfl) rfl rfl
          have s1 : a.eval (.tmp 14) = Value.slice (some ⟨g, off, none⟩) 64 c := t1.trans e1
          have e3 : v 3 = Value.int .i64 (i0 : Int) := hv 3 (by kernel_rfl)
          have t3 := ht 3 _ 16 (by kernel_rfl) rfl rfl
          have s3 : a.eval (.tmp 16) = Value.int .i64 (i0 : Int) := t3.trans e3
          clear e1 e3 t1 t3 hv ht hout hi
          exact ⟨rfl, ow_value (Value.pointer (some ⟨g, off + i0, none⟩)) w' (by unfold execOp; simp only [s1, s3]; clear s1 s3; go_simp) (Below.refl _ _) rfl⟩
        · obtain rfl := Option.some.inj hi
          have e4 : v 4 = Value.pointer (some ⟨g, off + i0, none⟩) := hv 4 (by kernel_rfl)
          have t4 := ht 4 _ 17 (by kernel_rfl) rfl rfl
          have s4 : a.eval (.tmp 17) = Value.pointer (some ⟨g, off + i0, none⟩) := t4.trans e4
          clear e4 t4 hv ht hout hi
          exact ⟨rfl, ow_value (Value.int .u8 (x0 : Int)) w' (by unfold execOp; simp only [s4]; clear s4; go_simp) (Below.refl _ _) rfl⟩
        · obtain rfl := Option.some.inj hi
          have e5 : v 5 = Value.int .u8 (x0 : Int) := hv 5 (by kernel_rfl)
          have t5 := ht 5 _ 18 (by kernel_rfl) rfl rfl
          have s5 : a.eval (.tmp 18) = Value.int .u8 (x0 : Int) := t5.trans e5
          clear e5 t5 hv ht hout hi
          exact ⟨rfl, ow_value (Value.int .u64 (x0 : Int)) w' (by unfold execOp; simp only [s5]; clear s5; go_simp) (Below.refl _ _) rfl⟩
        · obtain rfl := Option.some.inj hi
          have e6 : v 6 = Value.int .u64 (x0 : Int) := hv 6 (by kernel_rfl)
          have t6 := ht 6 _ 19 (by kernel_rfl) rfl rfl
          have s6 : a.eval (.tmp 19) = Value.int .u64 (x0 : Int) := t6.trans e6
          clear e6 t6 hv ht hout hi
          exact ⟨rfl, ow_value (Value.int .u64 (y0 : Int)) w' (by unfold execOp; simp only [s6, evalc]; clear s6; go_simp) (Below.refl _ _) rfl⟩
        · obtain rfl := Option.some.inj hi
          exact ⟨rfl, ow_move (.tmp 0) rfl (hout 0 (by kernel_rfl))⟩
        · obtain rfl := Option.some.inj hi
          exact ⟨rfl, ow_move (.tmp 4) rfl (hout 4 (by kernel_rfl))⟩
        · obtain rfl := Option.some.inj hi
          have e9 : v 9 = Value.int .i64 (k : Int) := hv 9 (by kernel_rfl)
          have t9 := ht 9 _ 22 (by kernel_rfl) rfl rfl
          have s9 : a.eval (.tmp 22) = Value.int .i64 (k : Int) := t9.trans e9
          clear e9 t9 hv ht hout hi
          exact ⟨rfl, ow_value (Value.int .i64 (i0 : Int)) w' (by unfold execOp; simp only [s9, evalc]; clear s9; go_simp) (Below.refl _ _) rfl⟩
        · obtain rfl := Option.some.inj hi
          have e10 : v 10 = Value.int .i64 (i0 : Int) := hv 10 (by kernel_rfl)
          have t10 := ht 10 _ 23 (by kernel_rfl) rfl rfl
          have s10 : a.eval (.tmp 23) = Value.int .i64 (i0 : Int) := t10.trans e10
          clear e10 t10 hv ht hout hi
          exact ⟨rfl, ow_value (Value.int .i64 (i1 : Int)) w' (by unfold execOp; simp only [s10, evalc]; clear s10; go_simp) (Below.refl _ _) rfl⟩
        · obtain rfl := Option.some.inj hi
          have e8 : v 8 = Value.slice (some ⟨g, off, none⟩) 64 c := hv 8 (by kernel_rfl)
          have t8 := ht 8 _ 21 (by kernel_rfl) rfl rfl
          have s8 : a.eval (.tmp 21) = Value.slice (some ⟨g, off, none⟩) 64 c := t8.trans e8
          have e11 : v 11 = Value.int .i64 (i1 : Int) := hv 11 (by kernel_rfl)
          have t11 := ht 11 _ 24 (by kernel_rfl) rfl rfl
          have s11 : a.eval (.tmp 24) = Value.int .i64 (i1 : Int) := t11.trans e11
          clear e8 e11 t8 t11 hv ht hout hi
          exact ⟨rfl, ow_value (Value.pointer (some ⟨g, off + i1, none⟩)) w' (by unfold execOp; simp only [s8, s11]; clear s8 s11; go_simp) (Below.refl _ _) rfl⟩
        · obtain rfl := Option.some.inj hi
          have e12 : v 12 = Value.pointer (some ⟨g, off + i1, none⟩) := hv 12 (by kernel_rfl)
          have t12 := ht 12 _ 25 (by kernel_rfl) rfl rfl
          have s12 : a.eval (.tmp 25) = Value.pointer (some ⟨g, off + i1, none⟩) := t12.trans e12
          clear e12 t12 hv ht hout hi
          exact ⟨rfl, ow_value (Value.int .u8 (x1 : Int)) w' (by unfold execOp; simp only [s12]; clear s12; go_simp) (Below.refl _ _) rfl⟩
        · obtain rfl := Option.some.inj hi
          have e13 : v 13 = Value.int .u8 (x1 : Int) := hv 13 (by kernel_rfl)
          have t13 := ht 13 _ 26 (by kernel_rfl) rfl rfl
          have s13 : a.eval (.tmp 26) = Value.int .u8 (x1 : Int) := t13.trans e13
          clear e13 t13 hv ht hout hi
          exact ⟨rfl, ow_value (Value.int .u64 (x1 : Int)) w' (by unfold execOp; simp only [s13]; clear s13; go_simp) (Below.refl _ _) rfl⟩
        · obtain rfl := Option.some.inj hi
          have e14 : v 14 = Value.int .u64 (x1 : Int) := hv 14 (by kernel_rfl)
          have t14 := ht 14 _ 27 (by kernel_rfl) rfl rfl
          have s14 : a.eval (.tmp 27) = Value.int .u64 (x1 : Int) := t14.trans e14
          clear e14 t14 hv ht hout hi
          exact ⟨rfl, ow_value (Value.int .u64 (y1 : Int)) w' (by unfold execOp; simp only [s14, evalc]; clear s14; go_simp) (Below.refl _ _) rfl⟩
        · obtain rfl := Option.some.inj hi
          have e7 : v 7 = Value.int .u64 (y0 : Int) := hv 7 (by kernel_rfl)
          have t7 := ht 7 _ 20 (by kernel_rfl) rfl rfl
          have s7 : a.eval (.tmp 20) = Value.int .u64 (y0 : Int) := t7.trans e7
          have e15 : v 15 = Value.int .u64 (y1 : Int) := hv 15 (by kernel_rfl)
          have t15 := ht 15 _ 28 (by kernel_rfl) rfl rfl
          have s15 : a.eval (.tmp 28) = Value.int .u64 (y1 : Int) := t15.trans e15
          clear e7 e15 t7 t15 hv ht hout hi
          exact ⟨rfl, ow_value (Value.int .u64 (z1 : Int)) w' (by unfold execOp; simp only [s7, s15]; clear s7 s15; go_simp) (Below.refl _ _) rfl⟩
        · obtain rfl := Option.some.inj hi
          exact ⟨rfl, ow_move (.tmp 0) rfl (hout 0 (by kernel_rfl))⟩
        · obtain rfl := Option.some.inj hi
          exact ⟨rfl, ow_move (.tmp 4) rfl (hout 4 (by kernel_rfl))⟩
        · obtain rfl := Option.some.inj hi
          have e18 : v 18 = Value.int .i64 (k : Int) := hv 18 (by kernel_rfl)
          have t18 := ht 18 _ 31 (by kernel_rfl) rfl rfl
          have s18 : a.eval (.tmp 31) = Value.int .i64 (k : Int) := t18.trans e18
          clear e18 t18 hv ht hout hi
          exact ⟨rfl, ow_value (Value.int .i64 (i0 : Int)) w' (by unfold execOp; simp only [s18, evalc]; clear s18; go_simp) (Below.refl _ _) rfl⟩
        · obtain rfl := Option.some.inj hi
          have e19 : v 19 = Value.int .i64 (i0 : Int) := hv 19 (by kernel_rfl)
          have t19 := ht 19 _ 32 (by kernel_rfl) rfl rfl
          have s19 : a.eval (.tmp 32) = Value.int .i64 (i0 : Int) := t19.trans e19
          clear e19 t19 hv ht hout hi
          exact ⟨rfl, ow_value (Value.int .i64 (i2 : Int)) w' (by unfold execOp; simp only [s19, evalc]; clear s19; go_simp) (Below.refl _ _) rfl⟩
        · obtain rfl := Option.some.inj hi
          have e17 : v 17 = Value.slice (some ⟨g, off, none⟩) 64 c := hv 17 (by kernel_rfl)
          have t17 := ht 17 _ 30 (by kernel_rfl) rfl rfl
          have s17 : a.eval (.tmp 30) = Value.slice (some ⟨g, off, none⟩) 64 c := t17.trans e17
          have e20 : v 20 = Value.int .i64 (i2 : Int) := hv 20 (by kernel_rfl)
          have t20 := ht 20 _ 33 (by kernel_rfl) rfl rfl
          have s20 : a.eval (.tmp 33) = Value.int .i64 (i2 : Int) := t20.trans e20
          clear e17 e20 t17 t20 hv ht hout hi
          exact ⟨rfl, ow_value (Value.pointer (some ⟨g, off + i2, none⟩)) w' (by unfold execOp; simp only [s17, s20]; clear s17 s20; go_simp) (Below.refl _ _) rfl⟩
        · obtain rfl := Option.some.inj hi
          have e21 : v 21 = Value.pointer (some ⟨g, off + i2, none⟩) := hv 21 (by kernel_rfl)
          have t21 := ht 21 _ 34 (by kernel_rfl) rfl rfl
          have s21 : a.eval (.tmp 34) = Value.pointer (some ⟨g, off + i2, none⟩) := t21.trans e21
          clear e21 t21 hv ht hout hi
          exact ⟨rfl, ow_value (Value.int .u8 (x2 : Int)) w' (by unfold execOp; simp only [s21]; clear s21; go_simp) (Below.refl _ _) rfl⟩
        · obtain rfl := Option.some.inj hi
          have e22 : v 22 = Value.int .u8 (x2 : Int) := hv 22 (by kernel_rfl)
          have t22 := ht 22 _ 35 (by kernel_rfl) rfl rfl
          have s22 : a.eval (.tmp 35) = Value.int .u8 (x2 : Int) := t22.trans e22
          clear e22 t22 hv ht hout hi
          exact ⟨rfl, ow_value (Value.int .u64 (x2 : Int)) w' (by unfold execOp; simp only [s22]; clear s22; go_simp) (Below.refl _ _) rfl⟩
        · obtain rfl := Option.some.inj hi
          have e23 : v 23 = Value.int .u64 (x2 : Int) := hv 23 (by kernel_rfl)
          have t23 := ht 23 _ 36 (by kernel_rfl) rfl rfl
          have s23 : a.eval (.tmp 36) = Value.int .u64 (x2 : Int) := t23.trans e23
          clear e23 t23 hv ht hout hi
          exact ⟨rfl, ow_value (Value.int .u64 (y2 : Int)) w' (by unfold execOp; simp only [s23, evalc]; clear s23; go_simp) (Below.refl _ _) rfl⟩
        · obtain rfl := Option.some.inj hi
          have e16 : v 16 = Value.int .u64 (z1 : Int) := hv 16 (by kernel_rfl)
          have t16 := ht 16 _ 29 (by kernel_rfl) rfl rfl
          have s16 : a.eval (.tmp 29) = Value.int .u64 (z1 : Int) := t16.trans e16
          have e24 : v 24 = Value.int .u64 (y2 : Int) := hv 24 (by kernel_rfl)
          have t24 := ht 24 _ 37 (by kernel_rfl) rfl rfl
          have s24 : a.eval (.tmp 37) = Value.int .u64 (y2 : Int) := t24.trans e24
          clear e16 e24 t16 t24 hv ht hout hi
          exact ⟨rfl, ow_value (Value.int .u64 (z2 : Int)) w' (by unfold execOp; simp only [s16, s24]; clear s16 s24; go_simp) (Below.refl _ _) rfl⟩
        · obtain rfl := Option.some.inj hi
          exact ⟨rfl, ow_move (.tmp 0) rfl (hout 0 (by kernel_rfl))⟩
        · obtain rfl := Option.some.inj hi
          exact ⟨rfl, ow_move (.tmp 4) rfl (hout 4 (by kernel_rfl))⟩
        · obtain rfl := Option.some.inj hi
          have e27 : v 27 = Value.int .i64 (k : Int) := hv 27 (by kernel_rfl)
          have t27 := ht 27 _ 40 (by kernel_rfl) rfl rfl
          have s27 : a.eval (.tmp 40) = Value.int .i64 (k : Int) := t27.trans e27
          clear e27 t27 hv ht hout hi
          exact ⟨rfl, ow_value (Value.int .i64 (i0 : Int)) w' (by unfold execOp; simp only [s27, evalc]; clear s27; go_simp) (Below.refl _ _) rfl⟩
        · obtain rfl := Option.some.inj hi
          have e28 : v 28 = Value.int .i64 (i0 : Int) := hv 28 (by kernel_rfl)
          have t28 := ht 28 _ 41 (by kernel_rfl) rfl rfl
          have s28 : a.eval (.tmp 41) = Value.int .i64 (i0 : Int) := t28.trans e28
          clear e28 t28 hv ht hout hi
          exact ⟨rfl, ow_value (Value.int .i64 (i3 : Int)) w' (by unfold execOp; simp only [s28, evalc]; clear s28; go_simp) (Below.refl _ _) rfl⟩
        · obtain rfl := Option.some.inj hi
          have e26 : v 26 = Value.slice (some ⟨g, off, none⟩) 64 c := hv 26 (by kernel_rfl)
          have t26 := ht 26 _ 39 (by kernel_rfl) rfl rfl
          have s26 : a.eval (.tmp 39) = Value.slice (some ⟨g, off, none⟩) 64 c := t26.trans e26
          have e29 : v 29 = Value.int .i64 (i3 : Int) := hv 29 (by kernel_rfl)
          have t29 := ht 29 _ 42 (by kernel_rfl) rfl rfl
          have s29 : a.eval (.tmp 42) = Value.int .i64 (i3 : Int) := t29.trans e29
          clear e26 e29 t26 t29 hv ht hout hi
          exact ⟨rfl, ow_value (Value.pointer (some ⟨g, off + i3, none⟩)) w' (by unfold execOp; simp only [s26, s29]; clear s26 s29; go_simp) (Below.refl _ _) rfl⟩
        · obtain rfl := Option.some.inj hi
          have e30 : v 30 = Value.pointer (some ⟨g, off + i3, none⟩) := hv 30 (by kernel_rfl)
          have t30 := ht 30 _ 43 (by kernel_rfl) rfl rfl
          have s30 : a.eval (.tmp 43) = Value.pointer (some ⟨g, off + i3, none⟩) := t30.trans e30
          clear e30 t30 hv ht hout hi
          exact ⟨rfl, ow_value (Value.int .u8 (x3 : Int)) w' (by unfold execOp; simp only [s30]; clear s30; go_simp) (Below.refl _ _) rfl⟩
        · obtain rfl := Option.some.inj hi
          have e31 : v 31 = Value.int .u8 (x3 : Int) := hv 31 (by kernel_rfl)
          have t31 := ht 31 _ 44 (by kernel_rfl) rfl rfl
          have s31 : a.eval (.tmp 44) = Value.int .u8 (x3 : Int) := t31.trans e31
          clear e31 t31 hv ht hout hi
          exact ⟨rfl, ow_value (Value.int .u64 (x3 : Int)) w' (by unfold execOp; simp only [s31]; clear s31; go_simp) (Below.refl _ _) rfl⟩
        · obtain rfl := Option.some.inj hi
          have e25 : v 25 = Value.int .u64 (z2 : Int) := hv 25 (by kernel_rfl)
          have t25 := ht 25 _ 38 (by kernel_rfl) rfl rfl
          have s25 : a.eval (.tmp 38) = Value.int .u64 (z2 : Int) := t25.trans e25
          have e32 : v 32 = Value.int .u64 (x3 : Int) := hv 32 (by kernel_rfl)
          have t32 := ht 32 _ 45 (by kernel_rfl) rfl rfl
          have s32 : a.eval (.tmp 45) = Value.int .u64 (x3 : Int) := t32.trans e32
          clear e25 e32 t25 t32 hv ht hout hi
          exact ⟨rfl, ow_value (Value.int .u64 (z3 : Int)) w' (by unfold execOp; simp only [s25, s32]; clear s25 s32; go_simp) (Below.refl _ _) rfl⟩
        · obtain rfl := Option.some.inj hi
          have e33 : v 33 = Value.int .u64 (z3 : Int) := hv 33 (by kernel_rfl)
          have t33 := ht 33 _ 46 (by kernel_rfl) rfl rfl
          have s33 : a.eval (.tmp 46) = Value.int .u64 (z3 : Int) := t33.trans e33
          exact ⟨rfl, ow_bsQ (.tmp 46) rfl z3 s33 ⟨w'.heap.size, rfl, Blk.new _ _ _⟩⟩
        · simp at hi

      · intro v W2 hb hv
        have e0 : v 0 = u3 := hv 0 (by simp)
        obtain ⟨g', e34, hg'⟩ : ∃ g, v 34 = .slice (some ⟨g, 0, none⟩) 1 1 ∧ Blk W2 g 38 (U64 [z3]) := hv 34 (by simp)
        clear hv
        have o3 := O3.out.below hb
        have bel := BEL.out.trans (hb.mono BEL.out.size)
        have hbs := bel.size
        replace O3 := Lib.hid o3; replace BEL := Lib.hid bel; have G' := Lib.hid hg'
        clear o3 bel hb hg' f0 f1 f2 f3 q0 q1 q2 q3 c0 c1 c2 c3 d0 d1 d2 g1 g2 g3
        simp only [List.take_succ_cons, List.drop_succ_cons, List.take_zero, List.drop_zero, putsFrom, if_true, Nat.zero_add, Nat.reduceAdd, e0, e34]
        clear e0 e34
        simp only [Act.put, List.setIfInBounds_toArray, List.set_cons_succ, List.set_cons_zero]
        have hlw := wordsN_length b k
        go_wp2_with (refine wpList_appQ rfl (.tmp 13) (.tmp 47) rfl w.heap.size u3 (wordsN b k) rfl O3.out g' z3 rfl G'.out (by rw [wordsN_length]; omega) hbs ?_; intro v3 w3 hown hgr)
        have hw1 : wordsN b (k + 1) = wordsN b k ++ [z3] := by simp [wordsN, hlt, HW.out]
        rw [← hw1] at hown
        exact ⟨⟨k + 1, by omega, by go_num, hown, BEL.out.grown hgr hbs (fun j hj => (O3.out.lt j hj).1)⟩, by simp [intOf]; omega⟩
    · obtain rfl : k = 16 := by omega
      rw [show ((16 : Nat) : Int) = 16 from rfl]
      go_wp2
      go_loopw [3, 5] (fun s i wr => ∃ k : Nat, k ≤ 64 ∧ 16 ≤ k ∧ i = .int .i64 k ∧ OwnQ wr w.heap.size s (wordsN b k) ∧ Below w.heap.size w wr) (fun _ i _ => 64 - (intOf i).toNat)
      case atStart => exact ⟨16, by omega, by omega, rfl, O3.out, BEL.out⟩
      case round =>
        clear O3 BEL HC
        obtain ⟨k, hk, hk', rfl, hown, hbel⟩ := hrel
        obtain ⟨g3, c3, rfl, hc3, hbg3, hlg3, hcells⟩ := hown.form (by rw [wordsN_length]; omega)
        rw [wordsN_length] at hown hcells hc3 ⊢
        have O3 := Lib.hid hown; have BEL := Lib.hid hbel
        clear hown hbel
        by_cases hlt : k < 64
        · have c2 := hcells (k - 2) (by omega)
          have c7 := hcells (k - 7) (by omega)
          have c15 := hcells (k - 15) (by omega)
          have c16 := hcells (k - 16) (by omega)
          clear hcells
          have L2 := (wordsN_lt HB'.out k).at (k - 2)
          have L7 := (wordsN_lt HB'.out k).at (k - 7)
          have L15 := (wordsN_lt HB'.out k).at (k - 15)
          have L16 := (wordsN_lt HB'.out k).at (k - 16)
          generalize hp2 : at0 (wordsN b k) (k - 2) = p2 at *
          generalize hp7 : at0 (wordsN b k) (k - 7) = p7 at *
          generalize hp15 : at0 (wordsN b k) (k - 15) = p15 at *
          generalize hp16 : at0 (wordsN b k) (k - 16) = p16 at *
          have P2 := Lib.hid hp2; have P7 := Lib.hid hp7; have P15 := Lib.hid hp15; have P16 := Lib.hid hp16
          clear hp2 hp7 hp15 hp16
          obtain ⟨j2, hj2⟩ : ∃ j, j = k - 2 := ⟨_, rfl⟩
          obtain ⟨j7, hj7⟩ : ∃ j, j = k - 7 := ⟨_, rfl⟩
          obtain ⟨j15, hj15⟩ : ∃ j, j = k - 15 := ⟨_, rfl⟩
          obtain ⟨j16, hj16⟩ : ∃ j, j = k - 16 := ⟨_, rfl⟩
          rw [← hj2] at c2; rw [← hj7] at c7; rw [← hj15] at c15; rw [← hj16] at c16
          have i2 : (k : Int) - 2 = (j2 : Int) := by omega
          have i7 : IntKind.i64.wrap ((k : Int) - 7) = (j7 : Int) := by rw [IntWalk.i64_in _ (by omega)]; omega
          have i15 : (k : Int) - 15 = (j15 : Int) := by omega
          have i16 : IntKind.i64.wrap ((k : Int) - 16) = (j16 : Int) := by rw [IntWalk.i64_in _ (by omega)]; omega
          have r2 : j2 < k := by omega
          have r7 : j7 < k := by omega
          have r15 : j15 < k := by omega
          have r16 : j16 < k := by omega
          have r2' : (j2 : Int) < k := by omega
          have r7' : (j7 : Int) < k := by omega
          have r15' : (j15 : Int) < k := by omega
          have r16' : (j16 : Int) < k := by omega
          clear hj2 hj7 hj15 hj16
          go_upto_region 11 with fail
          go_quiet ((go_at_call 27; exact Calls.quiet_of_same (turn_any _ _ _ (by first | exact L2 | exact L15) (by omega) (by omega))))
          go_upto_region 12 with fail
          obtain ⟨T, hT⟩ : ∃ T, T = lsig1 p2 + p7 + lsig0 p15 + p16 := ⟨_, rfl⟩
          have hTv := wcast L2 L7 L15 L16
          rw [← hT] at hTv
          rw [hTv]
          have hT64 : T < 18446744073709551616 := by
            have h1 := lsig1_lt L2
            have h2 := lsig0_lt L15
            omega
          have hTm : (T : Int) % 4294967296 = ((T % 4294967296 : Nat) : Int) := by omega
          obtain ⟨z, hz⟩ : ∃ z, z = T % 4294967296 := ⟨_, rfl⟩
          rw [← hz] at hTm
          have hw1 : wordsN b (k + 1) = wordsN b k ++ [z] := by
            have he : extW (wordsN b k) k = z := by
              unfold extW
              rw [P2.out, P7.out, P15.out, P16.out, hz, hT]
            simp only [wordsN]
            rw [if_neg (by omega), he]
          have o3 : OwnQ (wr.drewN nq) w.heap.size (.slice (some ⟨g3, 0, none⟩) k c3) (wordsN b k) := O3.out
          have bel := below_drewN BEL.out nq
          have hbs := bel.size
          have hT0 : 0 ≤ (T : Int) := by omega
          clear hT hTv hz
          generalize wr.drewN nq = W2 at *
          have ba : Below W2.heap.size W2 (W2.alloc (Obj.cells #[Value.int .u64 (z : Int)] 38)) := (Below.refl _ _).alloc (Nat.le_refl _) _
          have OA := Lib.hid (o3.below ba); have BA := Lib.hid (bel.trans (ba.mono bel.size)); have HW1 := Lib.hid hw1
          clear o3 bel ba hw1 O3 BEL P2 P7 P15 P16 c2 c7 c15 c16 i2 i7 i15 i16
          go_wp2_with (refine wpList_appQ rfl (.tmp 92) (.tmp 95) rfl w.heap.size _ (wordsN b k) rfl OA.out W2.heap.size z rfl (Blk.new _ _ _) (by rw [wordsN_length]; omega) (by simp; omega) ?_; intro v3 w3 hown hgr)
          rw [← HW1.out] at hown
          exact ⟨⟨k + 1, by omega, by omega, by go_num, hown, BA.out.grown hgr (by simp; omega) (fun j hj => (OA.out.lt j hj).1)⟩, by simp [intOf]; omega⟩
        · obtain rfl : k = 64 := by omega
          clear hcells
          go_wp2
          go_ret
          exact ⟨_, rfl, O3.out, BEL.out⟩
end Go.Proofs.Ytiigbhpnlpbnjaa
