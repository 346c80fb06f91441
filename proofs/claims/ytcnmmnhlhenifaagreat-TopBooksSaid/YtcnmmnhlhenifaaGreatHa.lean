/- SHA-256 over lists of numbers, and the program's hash.Sum: walked for stage 1, laid by names here. In a namespace of its own. -/
import Derived.Test.YtcnmmnhlhenifaaGreatRows
import Derived.Below
import Derived.Laws.BitsAllLaws
import Derived.Laws.BitsLemmas
import Derived.WalkKit
import Derived.WalkSpells
import Derived.WalkLawsBesides
import Derived.Deep.QuietTactic
import Derived.BigQuiet
import Derived.Lib.Hide
import Derived.Deep.WholeRow
import Derived.StillTailTactics
import Derived.Deep.Light
import Derived.Laws.CopyOwn
import Derived.Deep.DeepCutAuto
namespace Go.Proofs.YtcnmmnhlhenifaaGreat.Hs
def at0 (l : List Nat) (k : Nat) : Nat := l.getD k 0
def U32 (l : List Nat) : Array Value := (l.map (fun (x : Nat) => Value.int .u32 (x:Int))).toArray
def B8 (l : List Nat) : Array Value := (l.map (fun (x : Nat) => Value.int .u8 (x:Int))).toArray
def W32 (l : List Nat) : Prop := ∀ a ∈ l, a < 4294967296
def W8 (l : List Nat) : Prop := ∀ a ∈ l, a < 256
theorem at0_eq {l : List Nat} {k : Nat} (h : k < l.length) : at0 l k = l[k] := by
  unfold at0; rw [List.getD_eq_getElem?_getD, List.getElem?_eq_getElem h]; rfl
theorem at0_out {l : List Nat} {k : Nat} (h : l.length ≤ k) : at0 l k = 0 := by
  unfold at0; rw [List.getD_eq_getElem?_getD, List.getElem?_eq_none h]; rfl
theorem at0_lt {B : Nat} (hB : 0 < B) {l : List Nat} (h : ∀ a ∈ l, a < B) (k : Nat) : at0 l k < B := by
  by_cases hk : k < l.length
  · rw [at0_eq hk]; exact h _ (List.getElem_mem hk)
  · rw [at0_out (by omega)]; exact hB
theorem W32.at {l : List Nat} (h : W32 l) (k : Nat) : at0 l k < 4294967296 := at0_lt (by omega) h k
theorem W8.at {l : List Nat} (h : W8 l) (k : Nat) : at0 l k < 256 := at0_lt (by omega) h k
theorem at0_append_left {x y : List Nat} {k : Nat} (h : k < x.length) : at0 (x ++ y) k = at0 x k := by
  rw [at0_eq h, at0_eq (by simp; omega), List.getElem_append_left h]
theorem at0_append_right {x y : List Nat} {k : Nat} (h : x.length ≤ k) : at0 (x ++ y) k = at0 y (k - x.length) := by
  unfold at0; simp only [List.getD_eq_getElem?_getD]; rw [List.getElem?_append_right h]
theorem at0_drop (x : List Nat) (i k : Nat) : at0 (x.drop i) k = at0 x (i + k) := by
  unfold at0; simp only [List.getD_eq_getElem?_getD, List.getElem?_drop]
theorem at0_take {x : List Nat} {i k : Nat} (h : k < i) : at0 (x.take i) k = at0 x k := by
  unfold at0; simp only [List.getD_eq_getElem?_getD, List.getElem?_take_of_lt h]
theorem U32_get {x : List Nat} {k : Nat} (hk : k < x.length) : (U32 x)[k]? = some (.int .u32 ((at0 x k : Nat) : Int)) := by
  unfold U32; rw [at0_eq hk]; simp [hk]
theorem B8_get {x : List Nat} {k : Nat} (hk : k < x.length) : (B8 x)[k]? = some (.int .u8 ((at0 x k : Nat) : Int)) := by
  unfold B8; rw [at0_eq hk]; simp [hk]
theorem B8_size (x : List Nat) : (B8 x).size = x.length := by simp [B8]
theorem U32_size (x : List Nat) : (U32 x).size = x.length := by simp [U32]
def sameAcc (x y : List Nat) : Nat → Nat
  | 0 => 0
  | k + 1 => sameAcc x y k ||| (at0 x k ^^^ at0 y k)
def rotr (x n : Nat) : Nat := (x / 2 ^ n) ||| (x * 2 ^ (32 - n) % 4294967296)
def initN : List Nat := [0x6a09e667, 0xbb67ae85, 0x3c6ef372, 0xa54ff53a, 0x510e527f, 0x9b05688c, 0x1f83d9ab, 0x5be0cd19]
def KN : List Nat := [
    0x428a2f98, 0x71374491, 0xb5c0fbcf, 0xe9b5dba5, 0x3956c25b, 0x59f111f1, 0x923f82a4, 0xab1c5ed5,
    0xd807aa98, 0x12835b01, 0x243185be, 0x550c7dc3, 0x72be5d74, 0x80deb1fe, 0x9bdc06a7, 0xc19bf174,
    0xe49b69c1, 0xefbe4786, 0x0fc19dc6, 0x240ca1cc, 0x2de92c6f, 0x4a7484aa, 0x5cb0a9dc, 0x76f988da,
    0x983e5152, 0xa831c66d, 0xb00327c8, 0xbf597fc7, 0xc6e00bf3, 0xd5a79147, 0x06ca6351, 0x14292967,
    0x27b70a85, 0x2e1b2138, 0x4d2c6dfc, 0x53380d13, 0x650a7354, 0x766a0abb, 0x81c2c92e, 0x92722c85,
    0xa2bfe8a1, 0xa81a664b, 0xc24b8b70, 0xc76c51a3, 0xd192e819, 0xd6990624, 0xf40e3585, 0x106aa070,
    0x19a4c116, 0x1e376c08, 0x2748774c, 0x34b0bcb5, 0x391c0cb3, 0x4ed8aa4a, 0x5b9cca4f, 0x682e6ff3,
    0x748f82ee, 0x78a5636f, 0x84c87814, 0x8cc70208, 0x90befffa, 0xa4506ceb, 0xbef9a3f7, 0xc67178f2]
def lsig1 (x : Nat) : Nat := rotr x 17 ^^^ rotr x 19 ^^^ (x / 1024)
def lsig0 (y : Nat) : Nat := rotr y 7 ^^^ rotr y 18 ^^^ (y / 8)
def usig1 (e : Nat) : Nat := rotr e 6 ^^^ rotr e 11 ^^^ rotr e 25
def usig0 (a : Nat) : Nat := rotr a 2 ^^^ rotr a 13 ^^^ rotr a 22
def ch (e f g : Nat) : Nat := (e &&& f) ^^^ ((4294967295 - e) &&& g)
def maj (a b c : Nat) : Nat := (a &&& b) ^^^ (a &&& c) ^^^ (b &&& c)
def word (b : List Nat) (t : Nat) : Nat := at0 b (4 * t) * 16777216 + at0 b (4 * t + 1) * 65536 + at0 b (4 * t + 2) * 256 + at0 b (4 * t + 3)
def extW (l : List Nat) (k : Nat) : Nat := (lsig1 (at0 l (k - 2)) + at0 l (k - 7) + lsig0 (at0 l (k - 15)) + at0 l (k - 16)) % 4294967296
def wordsN (b : List Nat) : Nat → List Nat
  | 0 => []
  | k + 1 => wordsN b k ++ [if k < 16 then word b k else extW (wordsN b k) k]
structure S8 where
  a : Nat
  b : Nat
  c : Nat
  d : Nat
  e : Nat
  f : Nat
  g : Nat
  h : Nat
def T1 (s : S8) (kt wt : Nat) : Nat := (s.h + usig1 s.e + ch s.e s.f s.g + kt + wt) % 4294967296
def T2 (s : S8) : Nat := (usig0 s.a + maj s.a s.b s.c) % 4294967296
def roundN (s : S8) (kt wt : Nat) : S8 := ⟨(T1 s kt wt + T2 s) % 4294967296, s.a, s.b, s.c, (s.d + T1 s kt wt) % 4294967296, s.e, s.f, s.g⟩
def roundsN (W : List Nat) (s : S8) : Nat → S8
  | 0 => s
  | k + 1 => roundN (roundsN W s k) (at0 KN k) (at0 W k)
def s8 (st : List Nat) : S8 := ⟨at0 st 0, at0 st 1, at0 st 2, at0 st 3, at0 st 4, at0 st 5, at0 st 6, at0 st 7⟩
def addS (st : List Nat) (r : S8) : List Nat :=
  [(at0 st 0 + r.a) % 4294967296, (at0 st 1 + r.b) % 4294967296, (at0 st 2 + r.c) % 4294967296, (at0 st 3 + r.d) % 4294967296,
   (at0 st 4 + r.e) % 4294967296, (at0 st 5 + r.f) % 4294967296, (at0 st 6 + r.g) % 4294967296, (at0 st 7 + r.h) % 4294967296]
def absorbN (st b : List Nat) : List Nat := addS st (roundsN (wordsN b 64) (s8 st) 64)
def absorbK (st l : List Nat) : Nat → List Nat
  | 0 => st
  | k + 1 => absorbN (absorbK st l k) ((l.drop (64 * k)).take 64)
def byteOf (st : List Nat) (i : Nat) : Nat := at0 st (i / 4) / 2 ^ (24 - i % 4 * 8) % 256
def bytesN (st : List Nat) : List Nat := (List.range 32).map (byteOf st)
def be8 (n : Nat) : List Nat := (List.range 8).map fun i => n / 2 ^ (56 - 8 * i) % 256
def padded (ahead : Nat) (b : List Nat) : List Nat := b ++ (128 :: (List.replicate ((119 - b.length % 64) % 64) 0 ++ be8 (8 * (ahead + b.length))))
def finishN (st : List Nat) (ahead : Nat) (b : List Nat) : List Nat := bytesN (absorbK st (padded ahead b) ((padded ahead b).length / 64))
def sumN (b : List Nat) : List Nat := finishN initN 0 b
def maskN (b : List Nat) (m : Nat) : List Nat := b.map (· ^^^ m)
def keyN (key : List Nat) : List Nat := let k := if key.length > 64 then sumN key else key; k ++ List.replicate (64 - k.length) 0
def macN (key b : List Nat) : List Nat :=
  finishN (absorbN initN (maskN (keyN key) 92)) 64 (finishN (absorbN initN (maskN (keyN key) 54)) 64 b)
end Go.Proofs.YtcnmmnhlhenifaaGreat.Hs
namespace Go.Proofs.YtcnmmnhlhenifaaGreat.Hs
open Go.RowKit
set_option maxRecDepth 100000
set_option linter.unusedSimpArgs false
set_option linter.unusedVariables false
theorem rotr_lt (x n : Nat) (hx : x < 4294967296) : rotr x n < 4294967296 := by
  unfold rotr
  exact Nat.or_lt_two_pow (n := 32) (Nat.lt_of_le_of_lt (Nat.div_le_self _ _) hx) (Nat.mod_lt _ (by omega))
theorem rotr_cast (x n : Nat) (hx : x < 4294967296) : bits .or .u32 ((x : Int) / 2 ^ n) ((x : Int) * 2 ^ (32 - n) % 4294967296) = (rotr x n : Int) := by
  have h1 : ((x : Int) / 2 ^ n) = ((x / 2 ^ n : Nat) : Int) := by simp
  have h2 : ((x : Int) * 2 ^ (32 - n) % 4294967296) = ((x * 2 ^ (32 - n) % 4294967296 : Nat) : Int) := by simp
  rw [h1, h2, u32_or_nat _ _ (Nat.lt_of_le_of_lt (Nat.div_le_self _ _) hx) (Nat.mod_lt _ (by omega))]
  rfl
set_option maxHeartbeats 400000 in
theorem rotr_any (x : Nat) (b : Int) (w : World) (hx : x < 4294967296) (hb : 1 ≤ b) (hb' : b ≤ 31) :
    Calls Tryz.prog 154 #[.int .u32 x, .int .u64 b] w fun e w' => e = .returned (.int .u32 (rotr x b.toNat)) ∧ w' = w := by
  go_enter Tryz.func154, Tryz.ntmps154
  go_wp2
  go_ret
  refine ⟨?_, rfl⟩
  have := rotr_cast x b.toNat hx
  rw [← this, show 32 - b.toNat = (32 - b).toNat from by omega]
  simp
set_option maxHeartbeats 400000 in
theorem initial_any (w : World) :
    Calls Tryz.prog 117 #[] w fun e w' => e = .returned (.agg (U32 initN)) ∧ Below w.heap.size w w' := by
  go_enter Tryz.func117, Tryz.ntmps117
  go_wp2
  exact bodyPost_ret (v := .agg (U32 initN)) (by simp [results, Tryz.results117, go_sem, U32, initN]) rfl ⟨rfl, (Below.refl _ _).alloc (Nat.le_refl _) _⟩
theorem wpList_build_to {P : Program} {ops : Array Oper} {rest : List Oper} {o : Oper} {a : Act} {w : World} {Q : Exit → Act → World → Prop} (hg : o.guard = none) (t : TypeId) (parts : Array (Nat × Operand)) (ho : o.op = .build t parts)
    (cs : Array Value) (hf : P.built t (parts.map fun (i, x) => (i, a.eval x)).toList = some cs)
    (h : wpList P ops Q rest (a.put o.dst (.agg cs)) w) : wpList P ops Q (o :: rest) a w :=
  wpList_build hg t parts ho (by rw [hf]; rfl) (by rw [hf]; exact h)
theorem wpList_store_new {P : Program} {ops : Array Oper} {rest : List Oper} {o : Oper} {a : Act} {w : World} {Q : Exit → Act → World → Prop} (hgd : o.guard = none) (ty : TypeId) (x y : Operand) (ho : o.op = .store ty x y)
    (cells : Array Value) (hx : a.eval x = .pointer (some ⟨w.heap.size, 0, none⟩)) (hy : a.eval y = .agg cells)
    (t : TypeId) (old : Array Value) (hi : (P.info? ty).map (·.size) = some cells.size)
    (hold : old.size = cells.size) (h1 : cells.all (·.oneCell') = true)
    (h : wpList P ops Q rest (a.put o.dst undef) (w.alloc (.cells cells t))) : wpList P ops Q (o :: rest) a (w.alloc (.cells old t)) :=
  wpList_store_row hgd ty x y ho _ cells hx hy t old (heap_alloc_last w _) hi hold h1 (by rw [World.setRow_alloc_new]; exact h)
set_option maxRecDepth 100000 in
set_option maxHeartbeats 1000000 in
theorem table_any (w : World) :
    Calls Tryz.prog 152 #[] w fun e w' => e = .returned (.agg (U32 KN)) ∧ Below w.heap.size w w' := by
  go_enter Tryz.func152, Tryz.ntmps152
  go_wp2_with (first
    | (with_reducible refine wpList_build_to rfl 197 _ rfl (U32 KN) (by kernel_rfl) ?_)
    | (with_reducible refine wpList_store_new rfl 197 _ _ rfl (U32 KN) rfl rfl 197 _ (by kernel_rfl) (by kernel_rfl) (by kernel_rfl) ?_))
  exact bodyPost_ret (results_cell_row (P := Tryz.prog) (fn := Tryz.f152) rfl _ _ w.heap.size 197 (U32 KN) (0, 0) _ rfl (heap_alloc_last w _) Tryz.underlying197 rfl (by kernel_rfl)) rfl ⟨rfl, (Below.refl _ _).alloc (Nat.le_refl _) _⟩
end Go.Proofs.YtcnmmnhlhenifaaGreat.Hs
namespace Go.Proofs.YtcnmmnhlhenifaaGreat.Hs
open Go.RowKit
def Blk (w : World) (g : Nat) (t : TypeId) (cs : Array Value) : Prop := w.heap[g]? = some (.cells cs t (0, 0))
section
variable {w w' : World} {g : Nat} {t : TypeId} {cs : Array Value}
theorem Blk.lt (h : Blk w g t cs) : g < w.heap.size := by
  rcases Nat.lt_or_ge g w.heap.size with hlt | hge
  · exact hlt
  · unfold Blk at h; rw [Array.getElem?_eq_none hge] at h; cases h
theorem Blk.cell (h : Blk w g t cs) (i : Nat) : w.cell? ⟨g, i, none⟩ = cs[i]? := cell_of_row w g i cs t (0, 0) h
theorem Blk.frozen (h : Blk w g t cs) (i : Nat) : w.frozen? ⟨g, i, none⟩ = false := by
  unfold Blk at h
  simp [World.frozen?, h]
theorem Blk.new (w : World) (t : TypeId) (cs : Array Value) : Blk (w.alloc (.cells cs t)) w.heap.size t cs := heap_alloc_new w _
theorem Blk.drew (h : Blk w g t cs) : Blk w.drew g t cs := h
theorem Blk.drewN (h : Blk w g t cs) (n : Nat) : Blk (w.drewN n) g t cs := h
theorem Blk.alloc (h : Blk w g t cs) (o : Obj) : Blk (w.alloc o) g t cs := (Below.heap_alloc w o g h.lt).trans h
theorem Blk.set_ (h : Blk w g t cs) (i : Nat) (u : Value) : Blk (w.setCell ⟨g, i, none⟩ u) g t (cs.setIfInBounds i u) := by
  unfold Blk at h ⊢
  simp [World.setCell, Array.getElem?_modify, h]
theorem Blk.far (h : Blk w g t cs) {p : Addr} (hp : g ≠ p.block) (u : Value) : Blk (w.setCell p u) g t cs := (Below.heap_setCell w p u g hp).trans h
theorem Blk.below {B : Nat} (h : Blk w g t cs) (hb : Below B w w') (hg : g < B) : Blk w' g t cs := (hb.block g hg).trans h
theorem Blk.row (h : Blk w g t cs) (cs' : Array Value) : Blk (w.setRow g cs') g t cs' := by
  unfold Blk at h ⊢
  simp [World.setRow, Array.getElem?_modify, h]
theorem Blk.rowFar (h : Blk w g t cs) {g' : Nat} (hg : g ≠ g') (cs' : Array Value) : Blk (w.setRow g' cs') g t cs := by
  unfold Blk at h ⊢
  simp [World.setRow, Array.getElem?_modify, h]; omega
end
theorem below_setRow {B : Nat} {a w : World} (h : Below B a w) {g : Nat} (hp : B ≤ g) (cs : Array Value) : Below B a (w.setRow g cs) :=
  h.trans ⟨rfl, rfl, rfl, by simp, fun k hk => by simp [World.setRow, Array.getElem?_modify]; omega⟩
theorem below_drewN {B : Nat} {a w : World} (h : Below B a w) (n : Nat) : Below B a (w.drewN n) := ⟨h.os, h.tape, h.output, h.size, h.block⟩
theorem info51 : (Tryz.prog.info? 197).map (·.size) = some 64 := by kernel_rfl
theorem info42 : (Tryz.prog.info? 178).map (·.size) = some 64 := by kernel_rfl
theorem info24 : (Tryz.prog.info? 35).map (·.size) = some 32 := by kernel_rfl
theorem info36 : (Tryz.prog.info? 156).map (·.size) = some 8 := by kernel_rfl
theorem U32_one (l : List Nat) : (U32 l).all (·.oneCell') = true := by simp [U32, Value.oneCell']
theorem B8_one (l : List Nat) : (B8 l).all (·.oneCell') = true := by simp [B8, Value.oneCell']
theorem fold_drew (w : World) : ({ heap := w.heap, tape := w.tape, drawn := w.drawn + 1, os := w.os, output := w.output } : World) = w.drew := rfl
def pad (n : Nat) (l : List Nat) : List Nat := l ++ List.replicate (n - l.length) 0
theorem pad_length {n : Nat} {l : List Nat} (h : l.length ≤ n) : (pad n l).length = n := by simp [pad]; omega
theorem at0_pad {n : Nat} {l : List Nat} {k : Nat} : at0 (pad n l) k = at0 l k := by
  by_cases h : k < l.length
  · exact at0_append_left h
  · rw [pad, at0_append_right (by omega), at0_out (l := l) (by omega)]
    unfold at0
    simp only [List.getD_eq_getElem?_getD, List.getElem?_replicate]; split <;> rfl
theorem U32_set (n : Nat) (l : List Nat) (x : Nat) (h : l.length < n) : (U32 (pad n l)).setIfInBounds l.length (.int .u32 (x : Int)) = U32 (pad n (l ++ [x])) := by
  unfold U32 pad
  apply Array.ext'
  simp only [Array.toList_setIfInBounds, List.length_append, List.length_singleton]
  rw [← List.map_set]
  congr 1
  rw [List.set_append_right (h := Nat.le_refl _), Nat.sub_self, show n - l.length = (n - (l.length + 1)) + 1 by omega, List.replicate_succ]
  simp
theorem B8_set (n : Nat) (l : List Nat) (x : Nat) (h : l.length < n) : (B8 (pad n l)).setIfInBounds l.length (.int .u8 (x : Int)) = B8 (pad n (l ++ [x])) := by
  unfold B8 pad
  apply Array.ext'
  simp only [Array.toList_setIfInBounds, List.length_append, List.length_singleton]
  rw [← List.map_set]
  congr 1
  rw [List.set_append_right (h := Nat.le_refl _), Nat.sub_self, show n - l.length = (n - (l.length + 1)) + 1 by omega, List.replicate_succ]
  simp
theorem wordsN_length (b : List Nat) (k : Nat) : (wordsN b k).length = k := by
  induction k with
  | zero => rfl
  | succ k ih => simp [wordsN, ih]
theorem word_lt {b : List Nat} (h : W8 b) (k : Nat) : word b k < 4294967296 := by
  have h0 := h.at (4 * k); have h1 := h.at (4 * k + 1); have h2 := h.at (4 * k + 2); have h3 := h.at (4 * k + 3)
  unfold word; omega
theorem word_cast {b : List Nat} (h : W8 b) (k : Nat) :
    bits BinOp.or IntKind.u32
      (bits BinOp.or IntKind.u32
        (bits BinOp.or IntKind.u32 ((at0 b (4 * k) : Int) % 4294967296 * 16777216 % 4294967296)
          ((at0 b (4 * k + 1) : Int) % 4294967296 * 65536 % 4294967296))
        ((at0 b (4 * k + 2) : Int) % 4294967296 * 256 % 4294967296))
      ((at0 b (4 * k + 3) : Int) % 4294967296) = ((word b k : Nat) : Int) := by
  have h0 := h.at (4 * k); have h1 := h.at (4 * k + 1); have h2 := h.at (4 * k + 2); have h3 := h.at (4 * k + 3)
  unfold word
  generalize at0 b (4 * k) = x0 at *
  generalize at0 b (4 * k + 1) = x1 at *
  generalize at0 b (4 * k + 2) = x2 at *
  generalize at0 b (4 * k + 3) = x3 at *
  rw [show ((x0 : Int) % 4294967296 * 16777216 % 4294967296) = ((x0 * 16777216 : Nat) : Int) by omega,
    show ((x1 : Int) % 4294967296 * 65536 % 4294967296) = ((x1 * 65536 : Nat) : Int) by omega,
    show ((x2 : Int) % 4294967296 * 256 % 4294967296) = ((x2 * 256 : Nat) : Int) by omega,
    show ((x3 : Int) % 4294967296) = (x3 : Int) by omega]
  rw [u32_or_nat _ _ (by omega) (by omega), nat_join 24 _ _ (by omega) (by omega), u32_or_nat _ _ (by omega) (by omega), nat_join 16 _ _ (by omega) (by omega),
    u32_or_nat _ _ (by omega) (by omega), nat_join 8 _ _ (by omega) (by omega)]
theorem xor32 {x y : Nat} (hx : x < 4294967296) (hy : y < 4294967296) : x ^^^ y < 4294967296 := Nat.xor_lt_two_pow (n := 32) hx hy
theorem sig_cast {x i j d : Nat} (hx : x < 4294967296) :
    bits BinOp.xor IntKind.u32 (bits BinOp.xor IntKind.u32 (rotr x i : Int) (rotr x j : Int)) ((x : Int) / (d : Int)) = ((rotr x i ^^^ rotr x j ^^^ (x / d) : Nat) : Int) := by
  rw [← Int.natCast_ediv, u32_xor_nat _ _ (rotr_lt x i hx) (rotr_lt x j hx), u32_xor_nat _ _ (xor32 (rotr_lt x i hx) (rotr_lt x j hx)) (Nat.lt_of_le_of_lt (Nat.div_le_self _ _) hx)]
theorem ext_cast {l : List Nat} (hl : W32 l) (k : Nat) :
    (bits BinOp.xor IntKind.u32 (bits BinOp.xor IntKind.u32 (rotr (at0 l (k - 2)) 17 : Int) (rotr (at0 l (k - 2)) 19 : Int)) ((at0 l (k - 2) : Int) / 1024) + (at0 l (k - 7) : Int) +
      bits BinOp.xor IntKind.u32 (bits BinOp.xor IntKind.u32 (rotr (at0 l (k - 15)) 7 : Int) (rotr (at0 l (k - 15)) 18 : Int)) ((at0 l (k - 15) : Int) / 8) + (at0 l (k - 16) : Int)) % 4294967296 = ((extW l k : Nat) : Int) := by
  have h1 := sig_cast (x := at0 l (k - 2)) (i := 17) (j := 19) (d := 1024) (hl.at _)
  have h2 := sig_cast (x := at0 l (k - 15)) (i := 7) (j := 18) (d := 8) (hl.at _)
  rw [show ((1024 : Nat) : Int) = 1024 from rfl] at h1
  rw [show ((8 : Nat) : Int) = 8 from rfl] at h2
  rw [h1, h2]
  unfold extW lsig1 lsig0
  omega
theorem wordsN_lt {b : List Nat} (h : W8 b) (k : Nat) : W32 (wordsN b k) := by
  induction k with
  | zero => intro a ha; cases ha
  | succ k ih =>
    intro a ha
    simp only [wordsN, List.mem_append, List.mem_singleton] at ha
    rcases ha with ha | rfl
    · exact ih a ha
    · split
      · exact word_lt h k
      · unfold extW; omega
set_option maxRecDepth 100000 in
set_option maxHeartbeats 1000000 in
theorem schedule_any (b : List Nat) (w : World) (hb : b.length = 64) (hb' : W8 b) :
    Calls Tryz.prog 153 #[.agg (B8 b)] w fun e w' => e = .returned (.agg (U32 (wordsN b 64))) ∧ Below w.heap.size w w' := by
  have HB := Lib.hid hb; have HB' := Lib.hid hb'
  clear hb hb'
  go_enter Tryz.func153, Tryz.ntmps153
  go_wp2
  go_loopw [8] (fun i wr => ∃ k : Nat, k ≤ 16 ∧ i = .int .i64 k ∧ Below w.heap.size w wr ∧ wr.heap.size = w.heap.size + 3 ∧ Blk wr w.heap.size 178 (B8 b) ∧ Blk wr (w.heap.size + 1) 197 (U32 (pad 64 [])) ∧ Blk wr (w.heap.size + 1 + 1) 197 (U32 (pad 64 (wordsN b k)))) (fun i _ => 16 - (intOf i).toNat)
  case atStart =>
    refine ⟨0, by omega, rfl, (((Below.refl _ _).alloc (Nat.le_refl _) _).alloc (by simp) _).alloc (by simp; omega) _, by simp, ((Blk.new _ _ _).alloc _).alloc _, ?_, ?_⟩
    · have := (Blk.new (w.alloc (Obj.cells (B8 b) 178)) 197 (U32 (pad 64 []))).alloc (Obj.cells (U32 (pad 64 [])) 197)
      rw [show (w.alloc (Obj.cells (B8 b) 178)).heap.size = w.heap.size + 1 from by simp] at this
      exact this
    · have := Blk.new ((w.alloc (Obj.cells (B8 b) 178)).alloc (Obj.cells (U32 (pad 64 [])) 197)) 197 (U32 (pad 64 []))
      rw [show ((w.alloc (Obj.cells (B8 b) 178)).alloc (Obj.cells (U32 (pad 64 [])) 197)).heap.size = w.heap.size + 1 + 1 from by simp] at this
      exact this
  case round =>
    obtain ⟨k, hk, rfl, hbel, hsz, hb0, hb1, hb2⟩ := hrel
    have HBEL := Lib.hid hbel; have HSZ := Lib.hid hsz; have H0 := Lib.hid hb0; have H1 := Lib.hid hb1; have H2 := Lib.hid hb2
    clear hbel hsz hb0 hb1 hb2
    by_cases hlt : k < 16
    · have g0 : ∀ j, j < 4 → wr.cell? ⟨w.heap.size, 4 * k + j, none⟩ = some (.int .u8 ((at0 b (4 * k + j) : Nat) : Int)) := fun j hj => by
        rw [H0.out.cell, B8_get (by rw [HB.out]; omega)]
      have q0 := g0 0 (by omega)
      have q1 := g0 1 (by omega)
      have q2 := g0 2 (by omega)
      have q3 := g0 3 (by omega)
      simp only [Nat.add_zero] at q0
      have qs : ∃ u, wr.cell? ⟨w.heap.size + 1 + 1, k, none⟩ = some u := ⟨_, by rw [H2.out.cell, U32_get (by rw [pad_length (by rw [wordsN_length]; omega)]; omega)]⟩
      obtain ⟨u, qs⟩ := qs
      have qf := H2.out.frozen k
      clear g0
      have i0 : IntKind.i64.wrap (4 * (k : Int)) = 4 * (k : Int) := IntWalk.i64_in _ (by omega)
      have i1 : IntKind.i64.wrap (4 * (k : Int) + 1) = 4 * (k : Int) + 1 := IntWalk.i64_in _ (by omega)
      have i2 : IntKind.i64.wrap (4 * (k : Int) + 2) = 4 * (k : Int) + 2 := IntWalk.i64_in _ (by omega)
      have i3 : IntKind.i64.wrap (4 * (k : Int) + 3) = 4 * (k : Int) + 3 := IntWalk.i64_in _ (by omega)
      have n0 : (4 * (k : Int)).toNat = 4 * k := by omega
      have n1 : (4 * (k : Int) + 1).toNat = 4 * k + 1 := by omega
      have n2 : (4 * (k : Int) + 2).toNat = 4 * k + 2 := by omega
      have n3 : (4 * (k : Int) + 3).toNat = 4 * k + 3 := by omega
      have p0 : 0 ≤ 4 * (k : Int) := by omega
      have p1 : 0 ≤ 4 * (k : Int) + 1 := by omega
      have p2 : 0 ≤ 4 * (k : Int) + 2 := by omega
      have p3 : 0 ≤ 4 * (k : Int) + 3 := by omega
      have r0 : 4 * (k : Int) < 64 := by omega
      have r1 : 4 * (k : Int) + 1 < 64 := by omega
      have r2 : 4 * (k : Int) + 2 < 64 := by omega
      have r3 : 4 * (k : Int) + 3 < 64 := by omega
      have r4 : k < 64 := by omega
      have r5 : (k : Int) < 64 := by omega
      go_wp2
      go_still_tail 31, (by kernel_rfl)
      go_wp2
      rw [word_cast HB'.out]
      have hw : wordsN b (k + 1) = wordsN b k ++ [word b k] := by simp [wordsN, hlt]
      have hu := U32_set 64 (wordsN b k) (word b k) (by rw [wordsN_length]; omega)
      rw [wordsN_length] at hu
      refine ⟨⟨k + 1, by omega, by go_num, (HBEL.out.setCell (by simp; omega) _).drew, ?_, (H0.out.far (by simp; omega) _).drew, (H1.out.far (by simp) _).drew, ?_⟩, by simp [intOf]; omega⟩
      · simp [HSZ.out, World.setCell, World.drew]
      · rw [hw, ← hu]; exact (H2.out.set_ k _).drew
    · obtain rfl : k = 16 := by omega
      rw [show ((16 : Nat) : Int) = 16 from rfl]
      go_wp2
      go_loopw [5] (fun i wr => ∃ k : Nat, k ≤ 64 ∧ 16 ≤ k ∧ i = .int .i64 k ∧ Below w.heap.size w wr ∧ wr.heap.size = w.heap.size + 3 ∧ Blk wr (w.heap.size + 1) 197 (U32 (pad 64 [])) ∧ Blk wr (w.heap.size + 1 + 1) 197 (U32 (pad 64 (wordsN b k)))) (fun i _ => 64 - (intOf i).toNat)
      case atStart => exact ⟨16, by omega, by omega, rfl, HBEL.out, HSZ.out, H1.out, H2.out⟩
      case round =>
        clear HBEL HSZ H0 H1 H2
        rename_i wr0 _ _ _ _ 
        obtain ⟨k, hk, hk', rfl, hbel, hsz, hb1, hb2⟩ := hrel
        have HBEL := Lib.hid hbel; have HSZ := Lib.hid hsz; have H1 := Lib.hid hb1; have H2 := Lib.hid hb2
        clear hbel hsz hb1 hb2
        by_cases hlt : k < 64
        · have gc : ∀ j, j < 64 → wr.cell? ⟨w.heap.size + 1 + 1, j, none⟩ = some (.int .u32 ((at0 (wordsN b k) j : Nat) : Int)) := fun j hj => by
            rw [H2.out.cell, U32_get (by rw [pad_length (by rw [wordsN_length]; omega)]; omega), at0_pad]
          have c2 := gc (k - 2) (by omega)
          have c7 := gc (k - 7) (by omega)
          have c15 := gc (k - 15) (by omega)
          have c16 := gc (k - 16) (by omega)
          have ck := gc k (by omega)
          have qf := H2.out.frozen k
          clear gc
          have L2 := (wordsN_lt HB'.out k).at (k - 2)
          have L7 := (wordsN_lt HB'.out k).at (k - 7)
          have L15 := (wordsN_lt HB'.out k).at (k - 15)
          have L16 := (wordsN_lt HB'.out k).at (k - 16)
          have i2 : IntKind.i64.wrap ((k : Int) - 2) = (k : Int) - 2 := IntWalk.i64_in _ (by omega)
          have i7 : IntKind.i64.wrap ((k : Int) - 7) = (k : Int) - 7 := IntWalk.i64_in _ (by omega)
          have i15 : IntKind.i64.wrap ((k : Int) - 15) = (k : Int) - 15 := IntWalk.i64_in _ (by omega)
          have i16 : IntKind.i64.wrap ((k : Int) - 16) = (k : Int) - 16 := IntWalk.i64_in _ (by omega)
          have n2 : ((k : Int) - 2).toNat = k - 2 := by omega
          have n7 : ((k : Int) - 7).toNat = k - 7 := by omega
          have n15 : ((k : Int) - 15).toNat = k - 15 := by omega
          have n16 : ((k : Int) - 16).toNat = k - 16 := by omega
          have p2 : 0 ≤ (k : Int) - 2 := by omega
          have p7 : 0 ≤ (k : Int) - 7 := by omega
          have p15 : 0 ≤ (k : Int) - 15 := by omega
          have p16 : 0 ≤ (k : Int) - 16 := by omega
          have r2 : (k : Int) - 2 < 64 := by omega
          have r7 : (k : Int) - 7 < 64 := by omega
          have r15 : (k : Int) - 15 < 64 := by omega
          have r16 : (k : Int) - 16 < 64 := by omega
          have m2 : 2 ≤ k := by omega
          have m2' : (2 : Int) ≤ k := by omega
          have l2 : k < 66 := by omega
          have l2' : (k : Int) < 66 := by omega
          have m7 : 7 ≤ k := by omega
          have m7' : (7 : Int) ≤ k := by omega
          have l7 : k < 71 := by omega
          have l7' : (k : Int) < 71 := by omega
          have m15 : 15 ≤ k := by omega
          have m15' : (15 : Int) ≤ k := by omega
          have l15 : k < 79 := by omega
          have l15' : (k : Int) < 79 := by omega
          have m16 : 16 ≤ k := by omega
          have m16' : (16 : Int) ≤ k := by omega
          have l16 : k < 80 := by omega
          have l16' : (k : Int) < 80 := by omega
          go_wp2
          go_still (by kernel_rfl)
          go_wp2
          rw [fold_drew]
          replace c7 : wr.drew.cell? _ = _ := c7
          replace c16 : wr.drew.cell? _ = _ := c16
          replace ck : wr.drew.cell? _ = _ := ck
          replace qf : wr.drew.frozen? _ = _ := qf
          clear c2 c15
          replace HBEL := Lib.hid HBEL.out.drew
          replace HSZ : Hid (wr.drew.heap.size = _) := HSZ
          replace H1 := Lib.hid H1.out.drew
          replace H2 := Lib.hid H2.out.drew
          generalize wr.drew = wr2 at *
          go_still_tail 29, (by kernel_rfl)
          still_call (rotr_any _ 17 _ L2 (by omega) (by omega))
          repeat still_step
          still_call (rotr_any _ 19 _ L2 (by omega) (by omega))
          repeat still_step
          still_call (rotr_any _ 7 _ L15 (by omega) (by omega))
          repeat still_step
          still_call (rotr_any _ 18 _ L15 (by omega) (by omega))
          repeat still_step
          refine wpStill_nil ?_
          go_wp2
          rw [ext_cast (wordsN_lt HB'.out k)]
          have hw : wordsN b (k + 1) = wordsN b k ++ [extW (wordsN b k) k] := by simp [wordsN]; omega
          have hu := U32_set 64 (wordsN b k) (extW (wordsN b k) k) (by rw [wordsN_length]; omega)
          rw [wordsN_length] at hu
          refine ⟨⟨k + 1, by omega, by omega, by go_num, (HBEL.out.setCell (by simp; omega) _).drew, ?_, (H1.out.far (by simp) _).drew, ?_⟩, by simp [intOf]; omega⟩
          · have := HSZ.out; simpa [World.setCell, World.drew] using this
          · rw [hw, ← hu]; exact (H2.out.set_ k _).drew
        · obtain rfl : k = 64 := by omega
          have e64 : pad 64 (wordsN b 64) = wordsN b 64 := by simp [pad, wordsN_length]
          have h2 := H2.out
          rw [e64] at h2
          have h1 := H1.out
          replace H1 := Lib.hid h1; replace H2 := Lib.hid h2
          clear h1 h2 e64
          go_wp2_with (first
            | ((refine wpList_load_row rfl 197 _ rfl (w.heap.size + 1 + 1) rfl 197 (U32 (wordsN b 64)) (0, 0) _ H2.out Tryz.underlying197 rfl (by rw [U32_size, wordsN_length]; exact info51) ?_))
            | (refine wpList_store_row rfl 197 _ _ rfl (w.heap.size + 1) (U32 (wordsN b 64)) rfl rfl 197 _ H1.out (by rw [U32_size, wordsN_length]; exact info51) (by rw [U32_size, U32_size, wordsN_length]; rfl) (U32_one _) ?_))
          exact bodyPost_ret (results_cell_row (P := Tryz.prog) (fn := Tryz.f153) rfl _ _ (w.heap.size + 1) 197 (U32 (wordsN b 64)) (0, 0) _ rfl (H1.out.row _) Tryz.underlying197 rfl (by rw [U32_size, wordsN_length]; exact info51)) rfl ⟨rfl, below_setRow HBEL.out (by omega) _⟩
end Go.Proofs.YtcnmmnhlhenifaaGreat.Hs
namespace Go.Proofs.YtcnmmnhlhenifaaGreat.Hs
open Go.RowKit
theorem quiet_add_same {P : Program} {f : FuncId} {args : Array Value} {w : World} {a n : Nat} {v : Value}
    (h : Calls P f args (w.drewN (a + n)) fun e w' => e = .returned v ∧ w' = w.drewN (a + n)) :
    Calls P f args (w.drewN (a + n)) fun e w'' => e = .returned v ∧ ∃ m, w'' = w.drewN (a + m) :=
  h.mono fun _ _ ⟨he, hm⟩ => ⟨he, n, hm⟩
structure S8.Ok (s : S8) : Prop where
  a : s.a < 4294967296
  b : s.b < 4294967296
  c : s.c < 4294967296
  d : s.d < 4294967296
  e : s.e < 4294967296
  f : s.f < 4294967296
  g : s.g < 4294967296
  h : s.h < 4294967296
theorem roundN_ok {s : S8} (h : s.Ok) (k w : Nat) : (roundN s k w).Ok :=
  ⟨Nat.mod_lt _ (by omega), h.a, h.b, h.c, Nat.mod_lt _ (by omega), h.e, h.f, h.g⟩
theorem s8_ok {st : List Nat} (h : W32 st) : (s8 st).Ok := ⟨h.at _, h.at _, h.at _, h.at _, h.at _, h.at _, h.at _, h.at _⟩
theorem roundsN_ok {W : List Nat} {s : S8} (h : s.Ok) (k : Nat) : (roundsN W s k).Ok := by
  induction k with
  | zero => exact h
  | succ k ih => exact roundN_ok ih _ _
theorem KN_length : KN.length = 64 := by decide +kernel
theorem addS_length (st : List Nat) (r : S8) : (addS st r).length = 8 := rfl
theorem addS_lt (st : List Nat) (r : S8) : W32 (addS st r) := by
  intro a ha
  simp only [addS, List.mem_cons, List.not_mem_nil, or_false] at ha
  rcases ha with rfl | rfl | rfl | rfl | rfl | rfl | rfl | rfl <;> exact Nat.mod_lt _ (by omega)
theorem and32 {x y : Nat} (hx : x < 4294967296) : x &&& y < 4294967296 := Nat.lt_of_le_of_lt Nat.and_le_left hx
theorem xor_all (e : Nat) (he : e < 4294967296) : 4294967295 ^^^ e = 4294967295 - e := by
  have h := BitVec.toNat_not (x := BitVec.ofNat 32 e)
  have h2 : (BitVec.allOnes 32 ^^^ BitVec.ofNat 32 e) = ~~~ (BitVec.ofNat 32 e) := BitVec.allOnes_xor
  rw [← h2, BitVec.toNat_xor] at h
  simp only [BitVec.toNat_allOnes, BitVec.toNat_ofNat] at h
  rw [Nat.mod_eq_of_lt (by omega)] at h
  simpa using h
theorem usig_cast {x i j k : Nat} (hx : x < 4294967296) :
    bits BinOp.xor IntKind.u32 (bits BinOp.xor IntKind.u32 (rotr x i : Int) (rotr x j : Int)) (rotr x k : Int) = ((rotr x i ^^^ rotr x j ^^^ rotr x k : Nat) : Int) := by
  rw [u32_xor_nat _ _ (rotr_lt x i hx) (rotr_lt x j hx), u32_xor_nat _ _ (xor32 (rotr_lt x i hx) (rotr_lt x j hx)) (rotr_lt x k hx)]
theorem ch_cast {e f g : Nat} (he : e < 4294967296) (hf : f < 4294967296) (hg : g < 4294967296) :
    bits BinOp.xor IntKind.u32 (bits BinOp.and IntKind.u32 (e : Int) (f : Int))
      (bits BinOp.and IntKind.u32 (bits BinOp.xor IntKind.u32 (if IntKind.u32.signed = true then -1 else IntKind.u32.max) (e : Int)) (g : Int)) = ((ch e f g : Nat) : Int) := by
  have hm : (if IntKind.u32.signed = true then -1 else IntKind.u32.max : Int) = ((4294967295 : Nat) : Int) := by decide
  rw [hm, u32_xor_nat _ _ (by omega) he, xor_all e he, u32_and_nat _ _ he hf, u32_and_nat _ _ (by omega) hg, u32_xor_nat _ _ (and32 he) (and32 (by omega))]
  rfl
theorem maj_cast {a b c : Nat} (ha : a < 4294967296) (hb : b < 4294967296) (hc : c < 4294967296) :
    bits BinOp.xor IntKind.u32 (bits BinOp.xor IntKind.u32 (bits BinOp.and IntKind.u32 (a : Int) (b : Int)) (bits BinOp.and IntKind.u32 (a : Int) (c : Int))) (bits BinOp.and IntKind.u32 (b : Int) (c : Int)) = ((maj a b c : Nat) : Int) := by
  rw [u32_and_nat _ _ ha hb, u32_and_nat _ _ ha hc, u32_and_nat _ _ hb hc, u32_xor_nat _ _ (and32 ha) (and32 ha), u32_xor_nat _ _ (xor32 (and32 ha) (and32 ha)) (and32 hb)]
  rfl
theorem T1_cast {s : S8} (h : s.Ok) (kt wt : Nat) :
    ((s.h : Int) + bits BinOp.xor IntKind.u32 (bits BinOp.xor IntKind.u32 (rotr s.e 6 : Int) (rotr s.e 11 : Int)) (rotr s.e 25 : Int) +
      bits BinOp.xor IntKind.u32 (bits BinOp.and IntKind.u32 (s.e : Int) (s.f : Int))
      (bits BinOp.and IntKind.u32 (bits BinOp.xor IntKind.u32 (if IntKind.u32.signed = true then -1 else IntKind.u32.max) (s.e : Int)) (s.g : Int)) + (kt : Int) + (wt : Int)) % 4294967296 = ((T1 s kt wt : Nat) : Int) := by
  rw [usig_cast h.e, ch_cast h.e h.f h.g]
  unfold T1 usig1
  omega
theorem T2_cast {s : S8} (h : s.Ok) :
    (bits BinOp.xor IntKind.u32 (bits BinOp.xor IntKind.u32 (rotr s.a 2 : Int) (rotr s.a 13 : Int)) (rotr s.a 22 : Int) +
      bits BinOp.xor IntKind.u32 (bits BinOp.xor IntKind.u32 (bits BinOp.and IntKind.u32 (s.a : Int) (s.b : Int)) (bits BinOp.and IntKind.u32 (s.a : Int) (s.c : Int))) (bits BinOp.and IntKind.u32 (s.b : Int) (s.c : Int))) % 4294967296 = ((T2 s : Nat) : Int) := by
  rw [usig_cast h.a, maj_cast h.a h.b h.c]
  unfold T2 usig0
  omega
set_option maxRecDepth 100000 in
set_option maxHeartbeats 2000000 in
theorem absorb_any (st b : List Nat) (w : World) (hs : st.length = 8) (hs' : W32 st) (hb : b.length = 64) (hb' : W8 b) :
    Calls Tryz.prog 129 #[.agg (U32 st), .agg (B8 b)] w fun e w' => e = .returned (.agg (U32 (absorbN st b))) ∧ Below w.heap.size w w' := by
  have HS := Lib.hid hs; have HS' := Lib.hid hs'; have HB := Lib.hid hb; have HB' := Lib.hid hb'
  clear hs hb hs' hb'
  go_enter Tryz.func129, Tryz.ntmps129
  go_wp2_with fail
  refine (table_any _).mono ?_
  rintro e w1 ⟨rfl, hb1⟩
  have bS : Blk w1 w.heap.size 156 (U32 st) := (((Blk.new w 156 (U32 st)).alloc _).alloc _).below hb1 (by simp; omega)
  have bB : Blk w1 (w.heap.size + 1) 178 (B8 b) := by
    have := ((Blk.new (w.alloc (Obj.cells (U32 st) 156)) 178 (B8 b)).alloc _).below hb1 (by simp)
    rwa [show (w.alloc (Obj.cells (U32 st) 156)).heap.size = w.heap.size + 1 from by simp] at this
  have bR : Blk w1 (w.heap.size + 1 + 1) 156 (U32 (pad 8 [])) := by
    have := (Blk.new ((w.alloc (Obj.cells (U32 st) 156)).alloc (Obj.cells (B8 b) 178)) 156 (U32 (pad 8 []))).below hb1 (by simp)
    rwa [show ((w.alloc (Obj.cells (U32 st) 156)).alloc (Obj.cells (B8 b) 178)).heap.size = w.heap.size + 1 + 1 from by simp] at this
  have bel1 : Below w.heap.size w w1 := ((((Below.refl w.heap.size w).alloc (Nat.le_refl _) _).alloc (by simp) _).alloc (by simp; omega) _).trans (hb1.mono (by simp; omega))
  have sz1 : w.heap.size + 3 ≤ w1.heap.size := by have := hb1.size; simpa using this
  replace bS := Lib.hid bS; replace bB := Lib.hid bB; replace bR := Lib.hid bR; replace bel1 := Lib.hid bel1
  clear hb1
  go_wp2_with (first
    | (refine wpList_store_new rfl 197 _ _ rfl (U32 KN) rfl rfl 197 _ (by kernel_rfl) (by kernel_rfl) (by kernel_rfl) ?_)
    | (refine wpList_load_row rfl 178 _ rfl (w.heap.size + 1) rfl 178 (B8 b) (0, 0) _ (bB.out.alloc _) Tryz.underlying178 rfl (by rw [B8_size, HB.out]; exact info42) ?_))
  refine (schedule_any b _ HB.out HB'.out).mono ?_
  rintro e w2 ⟨rfl, hb2⟩
  have sz2 : w1.heap.size + 1 ≤ w2.heap.size := by have := hb2.size; simpa using this
  have cS : Blk w2 w.heap.size 156 (U32 st) := (bS.out.alloc _).below hb2 (by simp; omega)
  have cR : Blk w2 (w.heap.size + 1 + 1) 156 (U32 (pad 8 [])) := (bR.out.alloc _).below hb2 (by simp; omega)
  have cK : Blk w2 w1.heap.size 197 (U32 KN) := (Blk.new w1 197 (U32 KN)).below hb2 (by simp)
  have bel2 : Below w.heap.size w w2 := (bel1.out.alloc (by omega) _).trans (hb2.mono (by simp; omega))
  replace cS := Lib.hid cS; replace cR := Lib.hid cR; replace cK := Lib.hid cK; replace bel2 := Lib.hid bel2
  clear hb2 bS bB bR bel1
  go_wp2_with (first
    | (refine wpList_store_new rfl 197 _ _ rfl (U32 (wordsN b 64)) rfl rfl 197 _ (by rw [U32_size, wordsN_length]; exact info51) (by rw [U32_size, wordsN_length]; rfl) (U32_one _) ?_))
  have dS : Blk (w2.alloc (Obj.cells (U32 (wordsN b 64)) 197)) w.heap.size 156 (U32 st) := cS.out.alloc _
  have dR : Blk (w2.alloc (Obj.cells (U32 (wordsN b 64)) 197)) (w.heap.size + 1 + 1) 156 (U32 (pad 8 [])) := cR.out.alloc _
  have dK : Blk (w2.alloc (Obj.cells (U32 (wordsN b 64)) 197)) w1.heap.size 197 (U32 KN) := cK.out.alloc _
  have dW : Blk (w2.alloc (Obj.cells (U32 (wordsN b 64)) 197)) w2.heap.size 197 (U32 (wordsN b 64)) := Blk.new _ _ _
  have bel : Below w.heap.size w (w2.alloc (Obj.cells (U32 (wordsN b 64)) 197)) := bel2.out.alloc (by omega) _
  generalize w2.alloc (Obj.cells (U32 (wordsN b 64)) 197) = W at *
  have s0 := dS.cell 0; have s1 := dS.cell 1; have s2 := dS.cell 2; have s3 := dS.cell 3
  have s4 := dS.cell 4; have s5 := dS.cell 5; have s6 := dS.cell 6; have s7 := dS.cell 7
  rw [U32_get (by rw [HS.out]; omega)] at s0 s1 s2 s3 s4 s5 s6 s7
  replace dR := Lib.hid dR; replace dK := Lib.hid dK; replace dW := Lib.hid dW; replace bel := Lib.hid bel
  clear cS cR cK bel2 dS sz1 sz2
  generalize w1.heap.size = g5 at *
  generalize w2.heap.size = g6 at *
  clear w1 w2
  go_quiet (fail)
  go_wp2
  go_quiet (fail)
  go_wp2
  go_loopw [7, 8, 9, 10, 11, 12, 13, 14, 37] (fun a b' c d e f g h i wr => ∃ k : Nat, k ≤ 64 ∧ i = .int .i64 k ∧
      a = .int .u32 (roundsN (wordsN b 64) (s8 st) k).a ∧ b' = .int .u32 (roundsN (wordsN b 64) (s8 st) k).b ∧ c = .int .u32 (roundsN (wordsN b 64) (s8 st) k).c ∧ d = .int .u32 (roundsN (wordsN b 64) (s8 st) k).d ∧
      e = .int .u32 (roundsN (wordsN b 64) (s8 st) k).e ∧ f = .int .u32 (roundsN (wordsN b 64) (s8 st) k).f ∧ g = .int .u32 (roundsN (wordsN b 64) (s8 st) k).g ∧ h = .int .u32 (roundsN (wordsN b 64) (s8 st) k).h ∧
      ∃ n, wr = W.drewN n) (fun _ _ _ _ _ _ _ _ i _ => 64 - (intOf i).toNat)
  case atStart =>
    exact ⟨0, by omega, rfl, rfl, rfl, rfl, rfl, rfl, rfl, rfl, rfl, _, World.drewN_drewN _ _ _⟩
  case round =>
    obtain ⟨k, hk, rfl, rfl, rfl, rfl, rfl, rfl, rfl, rfl, rfl, n, rfl⟩ := hrel
    have hok := roundsN_ok (W := wordsN b 64) (s8_ok HS'.out) k
    have ha := hok.a; have he := hok.e
    by_cases hlt : k < 64
    · have gk := dK.out.cell k
      have gw := dW.out.cell k
      rw [U32_get (by rw [KN_length]; exact hlt)] at gk
      rw [U32_get (by rw [wordsN_length]; exact hlt)] at gw
      have HOK := Lib.hid hok
      clear hok
      go_wp2
      go_quiet ((go_at_call 154; first | exact quiet_add_same (rotr_any _ _ _ he (by omega) (by omega)) | exact Calls.quiet_of_same (rotr_any _ _ _ he (by omega) (by omega))))
      go_wp2_with (go_at_call 154; refine (rotr_any _ _ _ ha (by omega) (by omega)).mono ?_; rintro e w' ⟨rfl, rfl⟩)
      rw [T1_cast HOK.out, T2_cast HOK.out]
      refine ⟨⟨k + 1, by omega, by go_num, ?_, rfl, rfl, rfl, ?_, rfl, rfl, rfl, _, rfl⟩, by simp [intOf]; omega⟩
      · show _ = Value.int .u32 ((roundN (roundsN (wordsN b 64) (s8 st) k) (at0 KN k) (at0 (wordsN b 64) k)).a : Int)
        unfold roundN; simp
      · show _ = Value.int .u32 ((roundN (roundsN (wordsN b 64) (s8 st) k) (at0 KN k) (at0 (wordsN b 64) k)).e : Int)
        unfold roundN; simp
    · obtain rfl : k = 64 := by omega
      clear hok ha he
      have RR := dR.out.drewN n
      replace RR := Lib.hid RR
      go_wp2_with (first
        | (refine wpList_store_row rfl 156 _ _ rfl (w.heap.size + 1 + 1) _ rfl rfl 156 _ RR.out ?si ?sj ?sk ?_))
      case si => exact info36
      case sj => go_light; simp [U32, pad]
      case sk => go_light; simp [Value.oneCell']
      refine bodyPost_ret (results_cell_row (P := Tryz.prog) (fn := Tryz.f129) rfl _ _ (w.heap.size + 1 + 1) 156 _ (0, 0) _ rfl (RR.out.row _) Tryz.underlying156 rfl info36) rfl ⟨?_, below_setRow (below_drewN bel.out n) (by omega) _⟩
      simp [U32, absorbN, addS]
end Go.Proofs.YtcnmmnhlhenifaaGreat.Hs
namespace Go.Proofs.YtcnmmnhlhenifaaGreat.Hs
open Go.RowKit
theorem bytesN_length (st : List Nat) : (bytesN st).length = 32 := by simp [bytesN]
theorem at0_bytesN (st : List Nat) (i : Nat) (hi : i < 32) : at0 (bytesN st) i = byteOf st i := by
  rw [at0_eq (by rw [bytesN_length]; exact hi)]; simp [bytesN]
theorem take_snoc (l : List Nat) (k : Nat) (h : k < l.length) : l.take (k + 1) = l.take k ++ [at0 l k] := by
  rw [at0_eq h, List.take_append_getElem]
theorem wpList_store_blk {P : Program} {ops : Array Oper} {rest : List Oper} {o : Oper} {a : Act} {w : World} {Q : Exit → Act → World → Prop} (hgd : o.guard = none) (ty : TypeId) (x y : Operand) (ho : o.op = .store ty x y)
    (g : Nat) (cells : Array Value) (hx : a.eval x = .pointer (some ⟨g, 0, none⟩)) (hy : a.eval y = .agg cells)
    (t : TypeId) (old : Array Value) (n : Nat) (hg : Blk w g t old) (hi : (P.info? ty).map (·.size) = some n) (hn : cells.size = n)
    (hold : old.size = n) (h1 : cells.all (·.oneCell') = true)
    (h : wpList P ops Q rest (a.put o.dst undef) (w.setRow g cells)) : wpList P ops Q (o :: rest) a w :=
  wpList_store_row hgd ty x y ho g cells hx hy t old hg (by rw [hn]; exact hi) (by omega) h1 h
theorem wpList_load_blk {P : Program} {ops : Array Oper} {rest : List Oper} {o : Oper} {a : Act} {w : World} {Q : Exit → Act → World → Prop} (hgd : o.guard = none) (ty : TypeId) (x : Operand) (ho : o.op = .load ty x)
    (g : Nat) (hx : a.eval x = .pointer (some ⟨g, 0, none⟩)) (t : TypeId) (cs : Array Value) (d : TypeDesc) (n : Nat) (hg : Blk w g t cs)
    (hu : P.underlying ty = some d) (hd : (match d with | .struct _ | .array _ _ => true | _ => false) = true) (hi : (P.info? ty).map (·.size) = some n) (hn : cs.size = n)
    (h : wpList P ops Q rest (a.put o.dst (.agg cs)) w) : wpList P ops Q (o :: rest) a w :=
  wpList_load_row hgd ty x ho g hx t cs (0, 0) d hg hu hd (by rw [hn]; exact hi) h
theorem Blk.push8 {w : World} {g : Nat} {t : TypeId} {n : Nat} {L : List Nat} (h : Blk w g t (B8 (pad n L))) {i : Nat} (hi : L.length = i) (hn : i < n) (x : Nat) (y : Int) (hy : y = (x : Int)) :
    Blk (w.setCell ⟨g, i, none⟩ (.int .u8 y)) g t (B8 (pad n (L ++ [x]))) := by
  subst hi; subst hy
  rw [← B8_set n L x hn]
  exact h.set_ _ _
theorem bytesN_at (st : List Nat) (k j : Nat) (hk : k < 8) (hj : j < 4) : at0 (bytesN st) (4 * k + j) = at0 st k / 2 ^ (24 - j * 8) % 256 := by
  rw [at0_bytesN _ _ (by omega), byteOf, show (4 * k + j) / 4 = k by omega, show (4 * k + j) % 4 = j by omega]
theorem run_index36 (cs : Array Value) (k : Nat) (v : Value) (hv : cs[k]? = some v) (hk : k < 8) (W : World) :
    (Instr.index 156 (.agg cs) (.int .i64 (k : Int))).run Tryz.prog W = .ok v W := by
  have hi : (Tryz.prog.info? 155).map (·.size) = some 1 := by kernel_rfl
  cases hq : Tryz.prog.info? 155 with
  | none => simp [hq] at hi
  | some i =>
    have hi' : i.size = 1 := by simpa [hq] using hi
    simp [Instr.index, run_underlying Tryz.underlying156, asIntOf, hk, sizeOf, typeInfo, hq, hi', part, hv]
set_option maxRecDepth 100000 in
set_option maxHeartbeats 1000000 in
theorem bytesOf_any (st : List Nat) (w : World) (hs : st.length = 8) (hs' : W32 st) :
    Calls Tryz.prog 130 #[.agg (U32 st)] w fun e w' => e = .returned (.agg (B8 (bytesN st))) ∧ Below w.heap.size w w' := by
  have HS := Lib.hid hs; have HS' := Lib.hid hs'
  clear hs hs'
  go_enter Tryz.func130, Tryz.ntmps130
  go_wp2_with (refine wpList_load_blk rfl 156 _ rfl w.heap.size rfl 156 (U32 st) _ 8 (((Blk.new w 156 (U32 st)).alloc _).alloc _) Tryz.underlying156 rfl info36 (by rw [U32_size]; exact HS.out) ?_)
  go_loopw [7] (fun i wr => ∃ k : Nat, k ≤ 8 ∧ i = .int .i64 k ∧ Below w.heap.size w wr ∧ Blk wr (w.heap.size + 1) 35 (B8 (pad 32 [])) ∧ Blk wr (w.heap.size + 1 + 1) 35 (B8 (pad 32 ((bytesN st).take (4 * k))))) (fun i _ => 8 - (intOf i).toNat)
  case atStart =>
    refine ⟨0, by omega, rfl, (((Below.refl _ _).alloc (Nat.le_refl _) _).alloc (by simp) _).alloc (by simp; omega) _, ?_, ?_⟩
    · have := (Blk.new (w.alloc (Obj.cells (U32 st) 156)) 35 (B8 (pad 32 []))).alloc (Obj.cells (B8 (pad 32 [])) 35)
      rw [show (w.alloc (Obj.cells (U32 st) 156)).heap.size = w.heap.size + 1 from by simp] at this
      exact this
    · have := Blk.new ((w.alloc (Obj.cells (U32 st) 156)).alloc (Obj.cells (B8 (pad 32 [])) 35)) 35 (B8 (pad 32 []))
      rw [show ((w.alloc (Obj.cells (U32 st) 156)).alloc (Obj.cells (B8 (pad 32 [])) 35)).heap.size = w.heap.size + 1 + 1 from by simp] at this
      exact this
  case round =>
    obtain ⟨k, hk, rfl, hbel, hb1, hb2⟩ := hrel
    have HBEL := Lib.hid hbel; have H1 := Lib.hid hb1; have H2 := Lib.hid hb2
    clear hbel hb1 hb2
    by_cases hlt : k < 8
    · have gk : (U32 st)[k]? = some (.int .u32 ((at0 st k : Nat) : Int)) := U32_get (by rw [HS.out]; exact hlt)
      have ri := run_index36 (U32 st) k _ gk hlt
      clear gk
      have gc : ∀ j, j < 32 → ∃ u, wr.cell? ⟨w.heap.size + 1 + 1, j, none⟩ = some u := fun j hj => ⟨_, by rw [H2.out.cell, B8_get (by rw [pad_length (by simp [bytesN_length]; omega)]; omega)]⟩
      obtain ⟨v0, c0⟩ := gc (4 * k) (by omega)
      obtain ⟨v1, c1⟩ := gc (4 * k + 1) (by omega)
      obtain ⟨v2, c2⟩ := gc (4 * k + 2) (by omega)
      obtain ⟨v3, c3⟩ := gc (4 * k + 3) (by omega)
      have f0 := H2.out.frozen (4 * k)
      have f1 := H2.out.frozen (4 * k + 1)
      have f2 := H2.out.frozen (4 * k + 2)
      have f3 := H2.out.frozen (4 * k + 3)
      clear gc
      go_wp2
      have e0 := bytesN_at st k 0 hlt (by omega)
      have e1 := bytesN_at st k 1 hlt (by omega)
      have e2 := bytesN_at st k 2 hlt (by omega)
      have e3 := bytesN_at st k 3 hlt (by omega)
      have t0 := take_snoc (bytesN st) (4 * k) (by rw [bytesN_length]; omega)
      have t1 := take_snoc (bytesN st) (4 * k + 1) (by rw [bytesN_length]; omega)
      have t2 := take_snoc (bytesN st) (4 * k + 2) (by rw [bytesN_length]; omega)
      have t3 := take_snoc (bytesN st) (4 * k + 3) (by rw [bytesN_length]; omega)
      have lk : ((bytesN st).take (4 * k)).length = 4 * k := by simp [bytesN_length]; omega
      have p0 := H2.out.push8 (i := 4 * k) lk (by omega) (at0 (bytesN st) (4 * k)) (((at0 st k : Nat) : Int) / 16777216 % 256) (by rw [Nat.add_zero] at e0; rw [e0]; simp)
      have p1 := p0.push8 (i := 4 * k + 1) (by simp [lk]) (by omega) (at0 (bytesN st) (4 * k + 1)) (((at0 st k : Nat) : Int) / 65536 % 256) (by rw [e1]; simp)
      have p2 := p1.push8 (i := 4 * k + 2) (by simp [lk]) (by omega) (at0 (bytesN st) (4 * k + 2)) (((at0 st k : Nat) : Int) / 256 % 256) (by rw [e2]; simp)
      have p3 := p2.push8 (i := 4 * k + 3) (by simp [lk]) (by omega) (at0 (bytesN st) (4 * k + 3)) (((at0 st k : Nat) : Int) % 256) (by rw [e3]; simp)
      rw [← t0, ← t1, ← t2, ← t3] at p3
      refine ⟨⟨k + 1, by omega, by go_num, ?_, ?_, p3⟩, by simp [intOf]; omega⟩
      · exact (((HBEL.out.setCell (by simp; omega) _).setCell (by simp; omega) _).setCell (by simp; omega) _).setCell (by simp; omega) _
      · exact (((H1.out.far (by simp) _).far (by simp) _).far (by simp) _).far (by simp) _
    · obtain rfl : k = 8 := by omega
      have e32 : pad 32 ((bytesN st).take (4 * 8)) = bytesN st := by
        rw [List.take_of_length_le (by rw [bytesN_length]; omega)]; simp [pad, bytesN_length]
      have h2 := H2.out
      rw [e32] at h2
      replace H2 := Lib.hid h2
      clear h2 e32
      go_wp2_with (first
        | (refine wpList_load_blk rfl 35 _ rfl (w.heap.size + 1 + 1) rfl 35 (B8 (bytesN st)) _ 32 H2.out Tryz.underlying35 rfl info24 (by rw [B8_size, bytesN_length]) ?_)
        | (refine wpList_store_blk rfl 35 _ _ rfl (w.heap.size + 1) (B8 (bytesN st)) rfl rfl 35 _ 32 H1.out info24 (by rw [B8_size, bytesN_length]) (by rw [B8_size]; rfl) (B8_one _) ?_))
      exact bodyPost_ret (results_cell_row (P := Tryz.prog) (fn := Tryz.f130) rfl _ _ (w.heap.size + 1) 35 (B8 (bytesN st)) (0, 0) _ rfl (H1.out.row _) Tryz.underlying35 rfl (by rw [B8_size, bytesN_length]; exact info24)) rfl ⟨rfl, below_setRow HBEL.out (by omega) _⟩
theorem B8_setAt (l : List Nat) (i v : Nat) : (B8 l).setIfInBounds i (.int .u8 (v : Int)) = B8 (l.set i v) := by
  unfold B8
  apply Array.ext'
  simp only [Array.toList_setIfInBounds, ← List.map_set]
theorem set_mid (x y : List Nat) (k : Nat) (hx : k < x.length) (hy : k < y.length) : (x.take k ++ y.drop k).set k (at0 x k) = x.take (k + 1) ++ y.drop (k + 1) := by
  have lk : (x.take k).length = k := by simp; omega
  rw [List.set_append_right (h := by omega), lk, Nat.sub_self, List.drop_eq_getElem_cons hy, List.set_cons_zero, take_snoc x k hx, List.append_assoc, List.singleton_append]
theorem Blk.set8 {w : World} {g : Nat} {t : TypeId} {L : List Nat} (h : Blk w g t (B8 L)) (i x : Nat) (y : Int) (hy : y = (x : Int)) :
    Blk (w.setCell ⟨g, i, none⟩ (.int .u8 y)) g t (B8 (L.set i x)) := by
  subst hy
  rw [← B8_setAt]
  exact h.set_ _ _
end Go.Proofs.YtcnmmnhlhenifaaGreat.Hs
namespace Go.Proofs.YtcnmmnhlhenifaaGreat.Hs
open Go.RowKit
theorem absorbK_append (st l m : List Nat) (k : Nat) (h : 64 * k ≤ l.length) : absorbK st (l ++ m) k = absorbK st l k := by
  induction k with
  | zero => rfl
  | succ k ih =>
    simp only [absorbK]
    rw [ih (by omega), List.drop_append_of_le_length (by omega), List.take_append_of_le_length (by rw [List.length_drop]; omega)]
theorem be8_length (n : Nat) : (be8 n).length = 8 := by simp [be8]
theorem be8_lt (n : Nat) : ∀ a ∈ be8 n, a < 256 := by
  intro a ha
  simp only [be8, List.mem_map] at ha
  obtain ⟨i, _, rfl⟩ := ha
  exact Nat.mod_lt _ (by omega)
theorem at0_be8 (n i : Nat) (hi : i < 8) : at0 (be8 n) i = n / 2 ^ (56 - 8 * i) % 256 := by
  rw [at0_eq (by rw [be8_length]; exact hi)]; simp [be8]
def lastBlk (l : List Nat) : List Nat := l.drop (64 * (l.length / 64)) ++ 128 :: List.replicate (63 - l.length % 64) 0
theorem drop_len (l : List Nat) : (l.drop (64 * (l.length / 64))).length = l.length % 64 := by rw [List.length_drop]; omega
theorem lastBlk_length (l : List Nat) : (lastBlk l).length = 64 := by
  simp only [lastBlk, List.length_append, List.length_cons, List.length_replicate, drop_len]; omega
theorem chunkOf (l m : List Nat) (k : Nat) (h : l.length = 64 * k) (hm : m.length = 64) (x : List Nat) : ((l ++ (m ++ x)).drop (64 * k)).take 64 = m := by
  rw [← h, List.drop_left, ← hm, List.take_left]
theorem finishN_lo (st : List Nat) (ahead : Nat) (l : List Nat) (h : l.length % 64 < 56) :
    finishN st ahead l = bytesN (absorbN (absorbK st l (l.length / 64)) ((lastBlk l).take 56 ++ be8 (8 * (ahead + l.length)))) := by
  unfold finishN
  have e1 : padded ahead l = l.take (64 * (l.length / 64)) ++ ((l.drop (64 * (l.length / 64)) ++ 128 :: (List.replicate (55 - l.length % 64) 0 ++ be8 (8 * (ahead + l.length)))) ++ []) := by
    rw [List.append_nil, ← List.append_assoc, List.take_append_drop]
    unfold padded
    rw [show (119 - l.length % 64) % 64 = 55 - l.length % 64 by omega]
  have e2 : (lastBlk l).take 56 ++ be8 (8 * (ahead + l.length)) = l.drop (64 * (l.length / 64)) ++ 128 :: (List.replicate (55 - l.length % 64) 0 ++ be8 (8 * (ahead + l.length))) := by
    have e3 : lastBlk l = (l.drop (64 * (l.length / 64)) ++ 128 :: List.replicate (55 - l.length % 64) 0) ++ List.replicate 8 0 := by
      unfold lastBlk
      rw [List.append_assoc, List.cons_append, List.replicate_append_replicate, show 55 - l.length % 64 + 8 = 63 - l.length % 64 by omega]
    rw [e3, List.take_append_of_le_length (by simp only [List.length_append, List.length_cons, List.length_replicate, drop_len]; omega), List.take_of_length_le (by simp only [List.length_append, List.length_cons, List.length_replicate, drop_len]; omega)]
    simp
  have hlen : (padded ahead l).length = 64 * (l.length / 64) + 64 := by
    simp only [padded, List.length_append, List.length_cons, List.length_replicate, be8_length]; omega
  rw [hlen, show (64 * (l.length / 64) + 64) / 64 = l.length / 64 + 1 by omega]
  simp only [absorbK]
  rw [show absorbK st (padded ahead l) (l.length / 64) = absorbK st l (l.length / 64) from absorbK_append st l _ _ (by omega), e1]
  rw [chunkOf _ _ _ (by rw [List.length_take]; omega) (by simp only [List.length_append, List.length_cons, List.length_replicate, be8_length, drop_len]; omega), e2]
theorem finishN_hi (st : List Nat) (ahead : Nat) (l : List Nat) (h : 56 ≤ l.length % 64) :
    finishN st ahead l = bytesN (absorbN (absorbN (absorbK st l (l.length / 64)) (lastBlk l)) (List.replicate 56 0 ++ be8 (8 * (ahead + l.length)))) := by
  unfold finishN
  have e1 : padded ahead l = l.take (64 * (l.length / 64)) ++ (lastBlk l ++ (List.replicate 56 0 ++ be8 (8 * (ahead + l.length)))) := by
    unfold lastBlk
    rw [List.append_assoc, ← List.append_assoc, List.take_append_drop]
    unfold padded
    rw [show (119 - l.length % 64) % 64 = (63 - l.length % 64) + 56 by omega, ← List.replicate_append_replicate]
    simp
  have hlen : (padded ahead l).length = 64 * (l.length / 64) + 128 := by
    simp only [padded, List.length_append, List.length_cons, List.length_replicate, be8_length]; omega
  rw [hlen, show (64 * (l.length / 64) + 128) / 64 = l.length / 64 + 1 + 1 by omega]
  simp only [absorbK]
  rw [show absorbK st (padded ahead l) (l.length / 64) = absorbK st l (l.length / 64) from absorbK_append st l _ _ (by omega), e1]
  rw [chunkOf _ _ _ (by rw [List.length_take]; omega) (lastBlk_length l)]
  rw [← List.append_assoc]
  have := chunkOf (l.take (64 * (l.length / 64)) ++ lastBlk l) (List.replicate 56 0 ++ be8 (8 * (ahead + l.length))) (l.length / 64 + 1) (by rw [List.length_append, lastBlk_length, List.length_take]; omega) (by simp [be8_length]) []
  rw [List.append_nil] at this
  rw [this]
end Go.Proofs.YtcnmmnhlhenifaaGreat.Hs
namespace Go.Proofs.YtcnmmnhlhenifaaGreat.Hs
open Go.RowKit
theorem block_of_add (a : Addr) (n : Nat) : (a.add n).block = a.block := by unfold Addr.add; split <;> rfl
theorem add_of_add (a : Addr) (i j : Nat) : (a.add i).add j = a.add (i + j) := by
  unfold Addr.add
  by_cases hi : i = 0 <;> by_cases hj : j = 0 <;> simp [hi, hj, Nat.add_assoc]
def Rd (w : World) (B : Nat) (A : Option Addr) (l : List Nat) : Prop :=
  0 < l.length → ∃ ad, A = some ad ∧ ad.block < B ∧ ∀ j, j < l.length → w.cell? (ad.add j) = some (.int .u8 ((at0 l j : Nat) : Int))
theorem Rd.below {w w' : World} {B : Nat} {A : Option Addr} {l : List Nat} (h : Rd w B A l) (hb : Below B w w') : Rd w' B A l := fun h0 => by
  obtain ⟨ad, rfl, hB, hc⟩ := h h0
  exact ⟨ad, rfl, hB, fun j hj => (hb.cell (p := ad.add j) (by rw [block_of_add]; exact hB)).trans (hc j hj)⟩
theorem Rd.more {w : World} {B B' : Nat} {A : Option Addr} {l : List Nat} (h : Rd w B A l) (hB : B ≤ B') : Rd w B' A l := fun h0 => by
  obtain ⟨ad, rfl, hB, hc⟩ := h h0
  exact ⟨ad, rfl, by omega, hc⟩
theorem Rd.cut {w : World} {B : Nat} {A : Option Addr} {l : List Nat} (h : Rd w B A l) {k c : Nat} (hk : k ≤ l.length) (hc : l.length ≤ c) :
    Rd w B (if c = k then A else A.map (·.add k)) (l.drop k) := fun h0 => by
  rw [List.length_drop] at h0
  obtain ⟨ad, rfl, hB, hcell⟩ := h (by omega)
  rw [if_neg (by omega)]
  refine ⟨ad.add k, rfl, by rw [block_of_add]; exact hB, fun j hj => ?_⟩
  rw [List.length_drop] at hj
  rw [add_of_add, at0_drop]
  exact hcell _ (by omega)
theorem info5 : (Tryz.prog.info? 5).map (·.size) = some 1 := by kernel_rfl
theorem B8_oneCell (l : List Nat) : ∀ v ∈ (B8 l).toList, v.oneCell' = true := by
  intro v hv
  simp only [B8, List.mem_map] at hv
  obtain ⟨x, _, rfl⟩ := hv
  rfl
theorem wpList_copy8 {w : World} {ops : Array Oper} {rest : List Oper} {o : Oper} {a : Act} {Q : Exit → Act → World → Prop} (hgd : o.guard = none) (d s : Operand)
    (ho : o.op = .call { callee := .builtin .copy, args := #[d, s], argTypes := #[121, 121] })
    (g dCap : Nat) (A : Option Addr) (n sCap : Nat) (hd : a.eval d = .slice (some ⟨g, 0, none⟩) 64 dCap) (hs : a.eval s = .slice A n sCap)
    (t : TypeId) (cur l : List Nat) (B : Nat) (hg : Blk w g t (B8 cur)) (hcur : cur.length = 64) (hn : l.length = n) (hr : Rd w B A l) (X : List Nat) (hX : l.take 64 ++ cur.drop l.length = X) (m : Int) (hm : ((min n 64 : Nat) : Int) = m)
    (h : wpList Tryz.prog ops Q rest (a.put o.dst (.int .i64 m)) (w.setRow g (B8 X))) : wpList Tryz.prog ops Q (o :: rest) a w := by
  subst hn; subst hX; subst hm
  by_cases h0 : l.length = 0
  · obtain rfl : l = [] := List.eq_nil_of_length_eq_zero h0
    refine wpList_copy_nothing hgd d s 121 121 ho 5 Tryz.underlying121 info5 (some ⟨g, 0, none⟩) A 64 dCap _ sCap hd hs (by simp) ?_
    have e : w.setRow g (B8 cur) = w := setRow_self w g _ t (0, 0) hg
    simp only [List.take_nil, List.length_nil, List.drop_zero, List.nil_append, e] at h
    simpa [goInt] using h
  · obtain ⟨ad, rfl, hB, hc⟩ := hr (by omega)
    have hlen : (B8 (l.take 64)).toList.length = Nat.min l.length 64 := by simp [B8, Nat.min_comm]
    refine wpList_copy_own hgd d s 121 121 ho 5 Tryz.underlying121 info5 g 0 64 dCap ad _ sCap hd hs (B8 cur) t hg (B8 (l.take 64)).toList hlen ?_ ?_ (B8_oneCell _) ?_
    · intro j v hv
      rw [Array.getElem?_toList] at hv
      have hj : j < (l.take 64).length := by
        rcases Nat.lt_or_ge j (l.take 64).length with h | h
        · exact h
        · rw [Array.getElem?_eq_none (by rw [B8_size]; exact h)] at hv; cases hv
      rw [B8_get hj] at hv
      injection hv with hv
      subst hv
      rw [List.length_take] at hj
      have hj1 : j < 64 := Nat.lt_of_lt_of_le hj (Nat.min_le_left _ _)
      have hj2 : j < l.length := Nat.lt_of_lt_of_le hj (Nat.min_le_right _ _)
      rw [hc j hj2, at0_take hj1]
    · rw [hlen, B8_size, hcur]; rw [Nat.zero_add]; exact Nat.min_le_right _ _
    · rw [hlen]
      have e1 : ((B8 cur).toList.take 0 ++ ((B8 (l.take 64)).toList ++ (B8 cur).toList.drop (0 + Nat.min l.length 64))).toArray = B8 (l.take 64 ++ cur.drop l.length) := by
        unfold B8
        simp only [List.take_zero, List.nil_append, Nat.zero_add, List.map_append, List.map_drop]
        congr 2
        by_cases hl : l.length ≤ 64
        · rw [show Nat.min l.length 64 = l.length from Nat.min_eq_left hl]
        · rw [show Nat.min l.length 64 = 64 from Nat.min_eq_right (by omega), List.drop_of_length_le (by simp [hcur]), List.drop_of_length_le (by simp [hcur]; omega)]
      rw [e1]
      exact h
theorem absorbK_length {st l : List Nat} (hs : st.length = 8) (k : Nat) : (absorbK st l k).length = 8 := by
  cases k with
  | zero => exact hs
  | succ k => exact addS_length _ _
theorem absorbK_lt {st l : List Nat} (hs : W32 st) (k : Nat) : W32 (absorbK st l k) := by
  cases k with
  | zero => exact hs
  | succ k => exact addS_lt _ _
def chunk (l : List Nat) (k : Nat) : List Nat := (l.drop (64 * k)).take 64
theorem chunk_length {l : List Nat} {k : Nat} (h : 64 ≤ l.length - 64 * k) : (chunk l k).length = 64 := by simp [chunk]; omega
theorem chunk_lt {l : List Nat} (h : W8 l) (k : Nat) : W8 (chunk l k) := fun a ha => h a (List.mem_of_mem_drop (List.mem_of_mem_take ha))
theorem W8.drop {l : List Nat} (h : W8 l) (k : Nat) : W8 (l.drop k) := fun a ha => h a (List.mem_of_mem_drop ha)
theorem W8.take {l : List Nat} (h : W8 l) (k : Nat) : W8 (l.take k) := fun a ha => h a (List.mem_of_mem_take ha)
theorem W8.append {l m : List Nat} (h : W8 l) (h' : W8 m) : W8 (l ++ m) := fun a ha => (List.mem_append.1 ha).elim (h a) (h' a)
theorem W8.cons {x : Nat} {m : List Nat} (h : x < 256) (h' : W8 m) : W8 (x :: m) := fun a ha => (List.mem_cons.1 ha).elim (fun e => e ▸ h) (h' a)
theorem W8.zeros (n : Nat) : W8 (List.replicate n 0) := fun a ha => by rw [List.eq_of_mem_replicate ha]; omega
theorem pad_nil_drop (n m : Nat) : (pad n []).drop m = List.replicate (n - m) 0 := by simp [pad]
theorem pad_nil_length (n : Nat) : (pad n []).length = n := by simp [pad]
def Mid (w : World) (st l : List Nat) (ahead : Nat) (wx : World) : Prop := ∃ S Z : List Nat, S.length = 8 ∧ W32 S ∧ Z.length = 64 ∧ W8 Z ∧ Below w.heap.size w wx ∧ Blk wx w.heap.size 156 (U32 S) ∧
  Blk wx (w.heap.size + 1) 35 (B8 (pad 32 [])) ∧ Blk wx (w.heap.size + 1 + 1) 178 (B8 Z) ∧ finishN st ahead l = bytesN (absorbN S (Z.take 56 ++ be8 (8 * (ahead + l.length))))
theorem lastBlk_lt {l : List Nat} (h : W8 l) : W8 (lastBlk l) := (h.drop _).append (W8.cons (by omega) (W8.zeros _))
set_option maxRecDepth 100000 in
set_option maxHeartbeats 2000000 in
theorem finish_any (st l : List Nat) (ahead : Nat) (A : Option Addr) (c : Nat) (w : World) (hs : st.length = 8) (hs' : W32 st) (hl' : W8 l) (hr : Rd w w.heap.size A l) (hc : l.length ≤ c) (hbig : l.length + ahead < 1000000) :
    Calls Tryz.prog 116 #[.agg (U32 st), .int .u64 ahead, .slice A l.length c] w fun e w' => e = .returned (.agg (B8 (finishN st ahead l))) ∧ Below w.heap.size w w' := by
  have HS := Lib.hid hs; have HS' := Lib.hid hs'; have HL' := Lib.hid hl'; have HR := Lib.hid hr
  clear hs hs' hl' hr
  go_enter Tryz.func116, Tryz.ntmps116
  go_wp2
  go_loopw [2] (fun s wr => ∃ (k : Nat) (A : Option Addr) (c : Nat), 64 * k ≤ l.length ∧ s = .slice A (l.length - 64 * k) c ∧ l.length - 64 * k ≤ c ∧ Rd w w.heap.size A (l.drop (64 * k)) ∧ Below w.heap.size w wr ∧
      Blk wr w.heap.size 156 (U32 (absorbK st l k)) ∧ Blk wr (w.heap.size + 1) 35 (B8 (pad 32 [])) ∧ ∃ blk : List Nat, blk.length = 64 ∧ Blk wr (w.heap.size + 1 + 1) 178 (B8 blk)) (fun s _ => match s with | .slice _ n _ => n | _ => 0)
  case atStart =>
    refine ⟨0, A, c, by omega, rfl, by omega, HR.out, (((Below.refl _ _).alloc (Nat.le_refl _) _).alloc (by simp) _).alloc (by simp; omega) _, ((Blk.new _ _ _).alloc _).alloc _, ?_, pad 64 [], pad_nil_length _, ?_⟩
    · have := (Blk.new (w.alloc (Obj.cells (U32 st) 156)) 35 (B8 (pad 32 []))).alloc (Obj.cells (B8 (pad 64 [])) 178)
      rw [show (w.alloc (Obj.cells (U32 st) 156)).heap.size = w.heap.size + 1 from by simp] at this
      exact this
    · have := Blk.new ((w.alloc (Obj.cells (U32 st) 156)).alloc (Obj.cells (B8 (pad 32 [])) 35)) 178 (B8 (pad 64 []))
      rw [show ((w.alloc (Obj.cells (U32 st) 156)).alloc (Obj.cells (B8 (pad 32 [])) 35)).heap.size = w.heap.size + 1 + 1 from by simp] at this
      exact this
  case round =>
    obtain ⟨k, A, c, hk, rfl, hc, hr, hbel, hb0, hb1, blk, hblk, hb2⟩ := hrel
    have HBEL := Lib.hid hbel; have H0 := Lib.hid hb0; have H1 := Lib.hid hb1; have H2 := Lib.hid hb2; have HR := Lib.hid hr; have HBK := Lib.hid hblk
    clear hbel hb0 hb1 hb2 hr hblk
    by_cases hlt : l.length - 64 * k < 64
    · have hk' : k = l.length / 64 := by omega
      obtain ⟨r, hrr⟩ : ∃ r, r = l.drop (64 * k) := ⟨_, rfl⟩
      have hnr : l.length - 64 * k = r.length := by rw [hrr, List.length_drop]
      have hr' := HR.out
      rw [← hrr] at hr'
      rw [hnr] at hlt hc ⊢
      have hX : r.take 64 ++ (pad 64 []).drop r.length = pad 64 r := by
        rw [List.take_of_length_le (by omega), pad_nil_drop]; rfl
      have HX := Lib.hid hX; have HK := Lib.hid hk'; have HRR := Lib.hid hrr; have HNR := Lib.hid hnr
      replace HR := Lib.hid hr'
      clear hX hk' hrr hnr hr'
      have rl : (pad 64 r).length = 64 := pad_length (by omega)
      have RL := Lib.hid rl
      clear rl
      go_upto_region 9 with (first
        | (refine wpList_build_to rfl 178 _ rfl (B8 (pad 64 [])) (by kernel_rfl) ?_)
        | (refine wpList_store_blk rfl 178 (.tmp 8) (.tmp 28) rfl (w.heap.size + 1 + 1) (B8 (pad 64 [])) rfl rfl 178 _ 64 H2.out info42 (by rw [B8_size, pad_nil_length]) (by rw [B8_size, HBK.out]) (B8_one _) ?_)
        | (refine wpList_copy8 rfl (.tmp 29) (.tmp 30) rfl (w.heap.size + 1 + 1) 64 A _ c rfl rfl 178 (pad 64 []) r w.heap.size (H2.out.row _) (pad_nil_length _) rfl (HR.out.below (below_setRow HBEL.out (by omega) _)) (pad 64 r) HX.out (r.length : Int) (by omega) ?_))
      have k0 : Blk ((wr.setRow (w.heap.size + 1 + 1) (B8 (pad 64 []))).setRow (w.heap.size + 1 + 1) (B8 (pad 64 r))) w.heap.size 156 (U32 (absorbK st l k)) := (H0.out.rowFar (by omega) _).rowFar (by omega) _
      have k1 : Blk ((wr.setRow (w.heap.size + 1 + 1) (B8 (pad 64 []))).setRow (w.heap.size + 1 + 1) (B8 (pad 64 r))) (w.heap.size + 1) 35 (B8 (pad 32 [])) := (H1.out.rowFar (by omega) _).rowFar (by omega) _
      have k2 : Blk ((wr.setRow (w.heap.size + 1 + 1) (B8 (pad 64 []))).setRow (w.heap.size + 1 + 1) (B8 (pad 64 r))) (w.heap.size + 1 + 1) 178 (B8 (pad 64 r)) := (H2.out.row _).row _
      have kb : Below w.heap.size w ((wr.setRow (w.heap.size + 1 + 1) (B8 (pad 64 []))).setRow (w.heap.size + 1 + 1) (B8 (pad 64 r))) := below_setRow (below_setRow HBEL.out (by omega) _) (by omega) _
      generalize (wr.setRow (w.heap.size + 1 + 1) (B8 (pad 64 []))).setRow (w.heap.size + 1 + 1) (B8 (pad 64 r)) = W1 at *
      clear H0 H1 H2 HBEL HR HX HBK
      have cN : W1.cell? ⟨w.heap.size + 1 + 1, r.length, none⟩ = some (.int .u8 ((at0 (pad 64 r) r.length : Nat) : Int)) := by rw [k2.cell, B8_get (by rw [RL.out]; exact hlt)]
      have fN := k2.frozen r.length
      have K0 := Lib.hid k0; have K1 := Lib.hid k1; have K2 := Lib.hid k2; have KB := Lib.hid kb
      clear k0 k1 k2 kb
      go_upto_if 35 with fail
      have e2 : (pad 64 r).set r.length 128 = lastBlk l := by
        have hm : l.length % 64 = r.length := by have := HNR.out; have := HK.out; omega
        unfold pad lastBlk
        rw [List.set_append_right (h := Nat.le_refl _), Nat.sub_self, show 64 - r.length = (63 - r.length) + 1 by omega, List.replicate_succ, List.set_cons_zero, hm, ← HK.out, ← HRR.out]
      have m2 := K2.out.set8 r.length 128 128 rfl
      rw [e2] at m2
      have m0 := K0.out.far (p := ⟨w.heap.size + 1 + 1, r.length, none⟩) (by simp; omega) (.int .u8 128)
      have m1 := K1.out.far (p := ⟨w.heap.size + 1 + 1, r.length, none⟩) (by simp) (.int .u8 128)
      have mb := KB.out.setCell (p := ⟨w.heap.size + 1 + 1, r.length, none⟩) (by simp; omega) (.int .u8 128)
      generalize W1.setCell ⟨w.heap.size + 1 + 1, r.length, none⟩ (.int .u8 128) = W2 at *
      replace K0 := Lib.hid m0; replace K1 := Lib.hid m1; replace K2 := Lib.hid m2; replace KB := Lib.hid mb
      clear m0 m1 m2 mb e2 cN fN
      go_cut [9] (fun s wx => s = .int .i64 r.length ∧ Mid w st l ahead wx)
      case first =>
        by_cases h56 : r.length < 56
        · have h56' : (r.length : Int) < 56 := by omega
          go_wp2
          go_meet
          exact ⟨rfl, absorbK st l k, lastBlk l, absorbK_length HS.out k, absorbK_lt HS'.out k, lastBlk_length l, lastBlk_lt HL'.out, KB.out, K0.out, K1.out, K2.out, by
            rw [HK.out]; exact finishN_lo st ahead l (by have := HNR.out; have := HK.out; omega)⟩
        · have h56' : (56 : Int) ≤ (r.length : Int) := by omega
          have h56'' : 56 ≤ r.length := by omega
          go_wp2_with (first
            | (refine wpList_load_blk rfl 156 (.tmp 3) rfl w.heap.size rfl 156 (U32 (absorbK st l k)) _ 8 K0.out Tryz.underlying156 rfl info36 (by rw [U32_size, absorbK_length HS.out]) ?_)
            | (refine wpList_load_blk rfl 178 (.tmp 8) rfl (w.heap.size + 1 + 1) rfl 178 (B8 (lastBlk l)) _ 64 K2.out Tryz.underlying178 rfl info42 (by rw [B8_size, lastBlk_length]) ?_))
          refine (absorb_any _ _ _ (absorbK_length HS.out k) (absorbK_lt HS'.out k) (lastBlk_length l) (lastBlk_lt HL'.out)).mono ?_
          rintro e w4 ⟨rfl, hb4⟩
          have hlt2 := K2.out.lt
          have j0 : Blk w4 w.heap.size 156 (U32 (absorbK st l k)) := K0.out.below hb4 (by omega)
          have j1 : Blk w4 (w.heap.size + 1) 35 (B8 (pad 32 [])) := K1.out.below hb4 (by omega)
          have j2 : Blk w4 (w.heap.size + 1 + 1) 178 (B8 (lastBlk l)) := K2.out.below hb4 (by omega)
          have jb : Below w.heap.size w w4 := KB.out.trans (hb4.mono (by omega))
          replace j0 := Lib.hid j0; replace j1 := Lib.hid j1; replace j2 := Lib.hid j2; replace jb := Lib.hid jb
          clear hb4 hlt2
          go_wp2_with (first
            | (refine wpList_store_blk rfl 156 (.tmp 3) (.tmp 38) rfl w.heap.size (U32 (absorbN (absorbK st l k) (lastBlk l))) rfl rfl 156 _ 8 j0.out info36 (by rw [U32_size]; rfl) (by rw [U32_size, absorbK_length HS.out]) (U32_one _) ?_)
            | (refine wpList_build_to rfl 178 _ rfl (B8 (pad 64 [])) (by kernel_rfl) ?_)
            | (refine wpList_store_blk rfl 178 (.tmp 8) (.tmp 39) rfl (w.heap.size + 1 + 1) (B8 (pad 64 [])) rfl rfl 178 _ 64 (j2.out.rowFar (by omega) _) info42 (by rw [B8_size, pad_nil_length]) (by rw [B8_size, lastBlk_length]) (B8_one _) ?_))
          go_meet
          refine ⟨rfl, absorbN (absorbK st l k) (lastBlk l), pad 64 [], addS_length _ _, addS_lt _ _, pad_nil_length _, ?_, below_setRow (below_setRow jb.out (by omega) _) (by omega) _, (j0.out.row _).rowFar (by omega) _, (j1.out.rowFar (by omega) _).rowFar (by omega) _, (j2.out.rowFar (by omega) _).row _, ?_⟩
          · unfold pad; exact W8.zeros _
          · rw [HK.out, finishN_hi st ahead l (by have := HNR.out; have := HK.out; omega)]; rfl
      case rest =>
        obtain ⟨rfl, S, Z, hS, hS', hZ, hZ', mb, m0, m1, m2, hfin⟩ := hcut
        clear K0 K1 K2 KB
        replace hS := Lib.hid hS; replace hS' := Lib.hid hS'; replace hZ := Lib.hid hZ; replace hZ' := Lib.hid hZ'; replace hfin := Lib.hid hfin
        have K0 := Lib.hid m0; have K1 := Lib.hid m1; have K2 := Lib.hid m2; have KB := Lib.hid mb
        clear m0 m1 m2 mb
        go_wp2
        obtain ⟨X, hXe⟩ : ∃ X, X = Z.take 56 ++ be8 (8 * (ahead + l.length)) := ⟨_, rfl⟩
        have hXl : X.length = 64 := by rw [hXe, List.length_append, be8_length, List.length_take, hZ.out]; rfl
        have hX8 : W8 X := by rw [hXe]; exact (hZ'.out.take 56).append (be8_lt _)
        have hXat : ∀ k, k < 8 → at0 X (56 + k) = 8 * (ahead + l.length) / 2 ^ (56 - 8 * k) % 256 := fun k hk => by
          have h56 : (Z.take 56).length = 56 := by rw [List.length_take, hZ.out]; rfl
          rw [hXe, at0_append_right (by omega), h56, Nat.add_sub_cancel_left, at0_be8 _ _ hk]
        have hstart : X.take 56 ++ Z.drop 56 = Z := by
          have h56 : (Z.take 56).length = 56 := by rw [List.length_take, hZ.out]; rfl
          rw [hXe, List.take_append_of_le_length (by omega), List.take_of_length_le (by omega), List.take_append_drop]
        have HX := Lib.hid hXe; have HXL := Lib.hid hXl; have HX8 := Lib.hid hX8; have HXA := Lib.hid hXat; have HST := Lib.hid hstart
        clear hXe hXl hX8 hXat hstart
        go_loopw [40] (fun i wr => ∃ k : Nat, k ≤ 8 ∧ i = .int .i64 k ∧ Below w.heap.size w wr ∧ Blk wr w.heap.size 156 (U32 S) ∧ Blk wr (w.heap.size + 1) 35 (B8 (pad 32 [])) ∧ Blk wr (w.heap.size + 1 + 1) 178 (B8 (X.take (56 + k) ++ Z.drop (56 + k)))) (fun i _ => 8 - (intOf i).toNat)
        case atStart => exact ⟨0, by omega, rfl, KB.out, K0.out, K1.out, by rw [Nat.add_zero, HST.out]; exact K2.out⟩
        case round =>
          obtain ⟨i, hi, rfl, qb, q0, q1, q2⟩ := hrel
          clear K0 K1 K2 KB
          have K0 := Lib.hid q0; have K1 := Lib.hid q1; have K2 := Lib.hid q2; have KB := Lib.hid qb
          clear q0 q1 q2 qb
          by_cases hi8 : i < 8
          · have cN := K2.out.cell (56 + i)
            rw [B8_get (by simp [HXL.out, hZ.out]; omega)] at cN
            have fN := K2.out.frozen (56 + i)
            have z1 : (0 : Int) ≤ 56 - 8 * (i : Int) := by omega
            have z2 : (56 - 8 * (i : Int)).toNat = 56 - 8 * i := by omega
            have z3 : (56 + (i : Int)).toNat = 56 + i := by omega
            have z4 : 8 * (i : Int) ≤ 56 := by omega
            have z5 : 56 + (i : Int) < 64 := by omega
            go_wp2
            have hv : ((ahead : Int) + (l.length : Int)) * 8 / 2 ^ (56 - 8 * i) % 256 = ((at0 X (56 + i) : Nat) : Int) := by
              rw [HXA.out i hi8]
              simp [Int.mul_comm]
            have p2 := K2.out.set8 (56 + i) (at0 X (56 + i)) _ hv
            rw [set_mid _ _ _ (by rw [HXL.out]; omega) (by rw [hZ.out]; omega)] at p2
            exact ⟨⟨i + 1, by omega, by go_num, KB.out.setCell (by simp; omega) _, K0.out.far (by simp; omega) _, K1.out.far (by simp) _, p2⟩, by simp [intOf]; omega⟩
          · obtain rfl : i = 8 := by omega
            have e64 : X.take (56 + 8) ++ Z.drop (56 + 8) = X := by
              rw [List.take_of_length_le (by rw [HXL.out]; omega), List.drop_of_length_le (by rw [hZ.out]; omega), List.append_nil]
            have q2 := K2.out
            rw [e64] at q2
            replace K2 := Lib.hid q2
            clear q2 e64
            go_wp2_with (first
              | (refine wpList_load_blk rfl 156 (.tmp 3) rfl w.heap.size rfl 156 (U32 S) _ 8 K0.out Tryz.underlying156 rfl info36 (by rw [U32_size, hS.out]) ?_)
              | (refine wpList_load_blk rfl 178 (.tmp 8) rfl (w.heap.size + 1 + 1) rfl 178 (B8 X) _ 64 K2.out Tryz.underlying178 rfl info42 (by rw [B8_size, HXL.out]) ?_))
            refine (absorb_any _ _ _ hS.out hS'.out HXL.out HX8.out).mono ?_
            rintro e w4 ⟨rfl, hb4⟩
            have hlt2 := K2.out.lt
            have j1 : Blk w4 (w.heap.size + 1) 35 (B8 (pad 32 [])) := K1.out.below hb4 (by omega)
            have jb : Below w.heap.size w w4 := KB.out.trans (hb4.mono (by omega))
            replace j1 := Lib.hid j1; replace jb := Lib.hid jb
            clear hb4 hlt2
            go_wp2_with fail
            refine (bytesOf_any _ _ (addS_length _ _) (addS_lt _ _)).mono ?_
            rintro e w5 ⟨rfl, hb5⟩
            have hlt2 := j1.out.lt
            have hsz := jb.out.size
            have y1 : Blk w5 (w.heap.size + 1) 35 (B8 (pad 32 [])) := j1.out.below hb5 (by omega)
            have yb : Below w.heap.size w w5 := jb.out.trans (hb5.mono (by omega))
            replace y1 := Lib.hid y1; replace yb := Lib.hid yb
            clear hb5 hlt2 hsz
            go_wp2_with (refine wpList_store_blk rfl 35 (.tmp 6) (.tmp 56) rfl (w.heap.size + 1) (B8 (bytesN (absorbN S X))) rfl rfl 35 _ 32 y1.out info24 (by rw [B8_size, bytesN_length]) (by rw [B8_size, pad_nil_length]) (B8_one _) ?_)
            refine bodyPost_ret (results_cell_row (P := Tryz.prog) (fn := Tryz.f116) rfl _ _ (w.heap.size + 1) 35 (B8 (bytesN (absorbN S X))) (0, 0) _ rfl (y1.out.row _) Tryz.underlying35 rfl (by rw [B8_size, bytesN_length]; exact info24)) rfl ⟨?_, below_setRow yb.out (by omega) _⟩
            rw [hfin.out, HX.out]
    · have hge : 64 ≤ l.length - 64 * k := by omega
      have hge' : (64 : Int) ≤ ((l.length - 64 * k : Nat) : Int) := by omega
      have hX : (l.drop (64 * k)).take 64 ++ blk.drop (l.drop (64 * k)).length = chunk l k := by
        rw [List.drop_of_length_le (i := (l.drop (64 * k)).length) (by rw [List.length_drop, HBK.out]; omega), List.append_nil]; rfl
      have HX := Lib.hid hX
      clear hX
      go_wp2_with (first
        | (refine wpList_copy8 rfl _ _ rfl (w.heap.size + 1 + 1) 64 A _ c rfl rfl 178 blk (l.drop (64 * k)) w.heap.size H2.out HBK.out (by rw [List.length_drop]) (HR.out.below HBEL.out) (chunk l k) HX.out 64 (by omega) ?_)
        | (refine wpList_load_blk rfl 156 _ rfl w.heap.size rfl 156 (U32 (absorbK st l k)) _ 8 (H0.out.rowFar (by omega) _) Tryz.underlying156 rfl info36 (by rw [U32_size, absorbK_length HS.out]) ?_)
        | (refine wpList_load_blk rfl 178 _ rfl (w.heap.size + 1 + 1) rfl 178 (B8 (chunk l k)) _ 64 (H2.out.row _) Tryz.underlying178 rfl info42 (by rw [B8_size, chunk_length hge]) ?_))
      refine (absorb_any _ _ _ (absorbK_length HS.out k) (absorbK_lt HS'.out k) (chunk_length hge) (chunk_lt HL'.out k)).mono ?_
      rintro e w4 ⟨rfl, hb4⟩
      have hsz : (wr.setRow (w.heap.size + 1 + 1) (B8 (chunk l k))).heap.size = wr.heap.size := by simp
      rw [hsz] at hb4
      have hlt2 := H2.out.lt
      have j0 : Blk w4 w.heap.size 156 (U32 (absorbK st l k)) := (H0.out.rowFar (by omega) _).below hb4 (by omega)
      have j1 : Blk w4 (w.heap.size + 1) 35 (B8 (pad 32 [])) := (H1.out.rowFar (by omega) _).below hb4 (by omega)
      have j2 : Blk w4 (w.heap.size + 1 + 1) 178 (B8 (chunk l k)) := (H2.out.row _).below hb4 (by omega)
      have jb : Below w.heap.size w w4 := (below_setRow HBEL.out (by omega) _).trans (hb4.mono (by omega))
      replace j0 := Lib.hid j0; replace j1 := Lib.hid j1; replace j2 := Lib.hid j2; replace jb := Lib.hid jb
      clear hb4 hsz hlt2
      go_wp2_with (refine wpList_store_blk rfl 156 _ _ rfl w.heap.size (U32 (absorbN (absorbK st l k) (chunk l k))) rfl rfl 156 _ 8 j0.out info36 (by rw [U32_size]; rfl) (by rw [U32_size, absorbK_length HS.out]) (U32_one _) ?_)
      refine ⟨⟨k + 1, _, _, by omega, by rw [show l.length - 64 * (k + 1) = l.length - 64 * k - 64 by omega], by omega, ?_, below_setRow jb.out (by omega) _, j0.out.row _, j1.out.rowFar (by omega) _, chunk l k, chunk_length hge, j2.out.rowFar (by omega) _⟩, ?_⟩
      · have := HR.out.cut (k := 64) (c := c) (by rw [List.length_drop]; omega) (by rw [List.length_drop]; omega)
        rw [List.drop_drop, show 64 * k + 64 = 64 * (k + 1) by omega] at this
        simpa [Addr.add] using this
      · simp; omega
theorem finishN_length (st : List Nat) (a : Nat) (l : List Nat) : (finishN st a l).length = 32 := bytesN_length _
theorem initN_length : initN.length = 8 := rfl
theorem initN_lt : W32 initN := by unfold W32; decide +kernel
set_option maxHeartbeats 1000000 in
theorem sum_any (l : List Nat) (A : Option Addr) (c : Nat) (w : World) (hl' : W8 l) (hr : Rd w w.heap.size A l) (hc : l.length ≤ c) (hbig : l.length < 1000000) :
    Calls Tryz.prog 90 #[.slice A l.length c] w fun e w' => e = .returned (.agg (B8 (sumN l))) ∧ Below w.heap.size w w' := by
  have HL' := Lib.hid hl'; have HR := Lib.hid hr
  clear hl' hr
  go_enter Tryz.func90, Tryz.ntmps90
  go_wp2_with fail
  refine (initial_any _).mono ?_
  rintro e w1 ⟨rfl, hb1⟩
  have bR : Blk w1 w.heap.size 35 (B8 (pad 32 [])) := (Blk.new w 35 (B8 (pad 32 []))).below hb1 (by simp)
  have bel1 : Below w.heap.size w w1 := ((Below.refl w.heap.size w).alloc (Nat.le_refl _) _).trans (hb1.mono (by simp))
  have sz1 : w.heap.size + 1 ≤ w1.heap.size := by have := hb1.size; simpa using this
  replace bR := Lib.hid bR; replace bel1 := Lib.hid bel1
  clear hb1
  go_wp2_with fail
  refine (finish_any initN l 0 A c _ initN_length initN_lt HL'.out ((HR.out.below bel1.out).more (by omega)) hc (by omega)).mono ?_
  rintro e w2 ⟨rfl, hb2⟩
  have cR : Blk w2 w.heap.size 35 (B8 (pad 32 [])) := bR.out.below hb2 (by omega)
  have bel2 : Below w.heap.size w w2 := bel1.out.trans (hb2.mono (by omega))
  replace cR := Lib.hid cR; replace bel2 := Lib.hid bel2
  clear hb2
  go_wp2_with (refine wpList_store_blk rfl 35 (.tmp 2) (.tmp 5) rfl w.heap.size (B8 (finishN initN 0 l)) rfl rfl 35 _ 32 cR.out info24 (by rw [B8_size, finishN_length]) (by rw [B8_size, pad_nil_length]) (B8_one _) ?_)
  exact bodyPost_ret (results_cell_row (P := Tryz.prog) (fn := Tryz.f90) rfl _ _ w.heap.size 35 (B8 (finishN initN 0 l)) (0, 0) _ rfl (cR.out.row _) Tryz.underlying35 rfl (by rw [B8_size, finishN_length]; exact info24)) rfl ⟨rfl, below_setRow bel2.out (by omega) _⟩
end Go.Proofs.YtcnmmnhlhenifaaGreat.Hs
