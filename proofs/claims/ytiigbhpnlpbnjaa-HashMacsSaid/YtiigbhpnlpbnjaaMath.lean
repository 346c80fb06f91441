/- Plain mathematics of the hash: SHA-256 and HMAC over lists of numbers; no program is named here. -/
import Derived.Below
import Derived.Laws.BitsAllLaws
import Derived.Laws.BitsLemmas
namespace Go.Proofs.Ytiigbhpnlpbnjaa

def at0 (l : List Nat) (k : Nat) : Nat := l.getD k 0
def U32 (l : List Nat) : Array Value := (l.map (fun (x : Nat) => Value.int .u32 (x:Int))).toArray
def B8 (l : List Nat) : Array Value := (l.map (fun (x : Nat) => Value.int .u8 (x:Int))).toArray
def W32 (l : List Nat) : Prop := ∀ a ∈ l, a < 4294967296
def W8 (l : List Nat) : Prop := ∀ a ∈ l, a < 256

theorem at0_eq {l : List Nat} {k : Nat} (h : k < l.length) : at0 l k = l[k] := by
  unfold at0; rw [List.getD_eq_getElem?_getD, List.getElem?_eq_getElem h]; rfl
theorem at0_out {l : List Nat} {k : Nat} (h : l.length ≤ k) : at0 l k = 0 := by
  unfold at0; rw [List.getD_eq_getElem?_getD, List.getElem?_eq_none h]; rfl
theorem at0_lt {B : Nat} (hB : 0 < B) {l : List Nat} (h : ∀ a ∈ l, a < B) (k : Nat) : at0 l k < B := by
  by_cases hk : k < l.length
  · rw [at0_eq hk]; exact h _ (List.getElem_mem hk)
  · rw [at0_out (by omega)]; exact hB
theorem W32.at {l : List Nat} (h : W32 l) (k : Nat) : at0 l k < 4294967296 := at0_lt (by omega) h k
theorem W8.at {l : List Nat} (h : W8 l) (k : Nat) : at0 l k < 256 := at0_lt (by omega) h k
theorem ext_at0 {x y : List Nat} (hl : x.length = y.length) (h : ∀ j < x.length, at0 x j = at0 y j) : x = y := by
  apply List.ext_getElem hl
  intro i h1 h2
  have := h i h1
  rwa [at0_eq h1, at0_eq h2] at this
theorem at0_append_left {x y : List Nat} {k : Nat} (h : k < x.length) : at0 (x ++ y) k = at0 x k := by
  rw [at0_eq h, at0_eq (by simp; omega), List.getElem_append_left h]
theorem at0_append_right {x y : List Nat} {k : Nat} (h : x.length ≤ k) : at0 (x ++ y) k = at0 y (k - x.length) := by
  unfold at0; simp only [List.getD_eq_getElem?_getD]; rw [List.getElem?_append_right h]
theorem at0_drop (x : List Nat) (i k : Nat) : at0 (x.drop i) k = at0 x (i + k) := by
  unfold at0; simp only [List.getD_eq_getElem?_getD, List.getElem?_drop]
theorem at0_take {x : List Nat} {i k : Nat} (h : k < i) : at0 (x.take i) k = at0 x k := by
  unfold at0; simp only [List.getD_eq_getElem?_getD, List.getElem?_take_of_lt h]

theorem U32_get {x : List Nat} {k : Nat} (hk : k < x.length) : (U32 x)[k]? = some (.int .u32 ((at0 x k : Nat) : Int)) := by
  unfold U32; rw [at0_eq hk]; simp [hk]
theorem B8_get {x : List Nat} {k : Nat} (hk : k < x.length) : (B8 x)[k]? = some (.int .u8 ((at0 x k : Nat) : Int)) := by
  unfold B8; rw [at0_eq hk]; simp [hk]
theorem B8_size (x : List Nat) : (B8 x).size = x.length := by simp [B8]
theorem U32_size (x : List Nat) : (U32 x).size = x.length := by simp [U32]
theorem B8_inj {x y : List Nat} : B8 x = B8 y ↔ x = y := by
  constructor
  · intro h
    have h1 : x.length = y.length := by have := congrArg Array.size h; simpa [B8] using this
    apply ext_at0 h1
    intro j hj
    have h2 : (B8 x)[j]? = (B8 y)[j]? := by rw [h]
    rw [B8_get hj, B8_get (by omega)] at h2
    injection h2 with h2; injection h2 with _ h2; omega
  · rintro rfl; rfl

/-! Same -/
def sameAcc (x y : List Nat) : Nat → Nat
  | 0 => 0
  | k + 1 => sameAcc x y k ||| (at0 x k ^^^ at0 y k)
theorem sameAcc_lt {x y : List Nat} (hx : W8 x) (hy : W8 y) (k : Nat) : sameAcc x y k < 256 := by
  induction k with
  | zero => simp [sameAcc]
  | succ k ih =>
    have := hx.at k
    have := hy.at k
    exact Nat.or_lt_two_pow (n := 8) ih (Nat.xor_lt_two_pow (n := 8) (by omega) (by omega))
theorem sameAcc_zero (x y : List Nat) (k : Nat) : sameAcc x y k = 0 ↔ ∀ j < k, at0 x j = at0 y j := by
  induction k with
  | zero => simp [sameAcc]
  | succ k ih =>
    simp only [sameAcc, Nat.or_eq_zero_iff, ih]
    have hxor : at0 x k ^^^ at0 y k = 0 ↔ at0 x k = at0 y k := by
      constructor
      · intro h
        have h2 : (at0 x k ^^^ at0 y k) ^^^ at0 y k = at0 x k := by rw [Nat.xor_assoc, Nat.xor_self, Nat.xor_zero]
        rw [h, Nat.zero_xor] at h2; exact h2.symm
      · intro h; rw [h, Nat.xor_self]
    rw [hxor]
    constructor
    · rintro ⟨h1, h2⟩ j hj
      rcases Nat.lt_succ_iff_lt_or_eq.1 hj with h | rfl
      · exact h1 j h
      · exact h2
    · intro h
      exact ⟨fun j hj => h j (by omega), h k (by omega)⟩
theorem same_iff (x y : List Nat) (hx : x.length = 32) (hy : y.length = 32) : ((sameAcc x y 32 : Int) == 0) = decide (x = y) := by
  rw [Bool.eq_iff_iff]
  simp only [beq_iff_eq, decide_eq_true_eq]
  rw [show ((sameAcc x y 32 : Int) = 0) ↔ sameAcc x y 32 = 0 by omega, sameAcc_zero]
  constructor
  · intro h
    exact ext_at0 (by omega) (fun j hj => h j (by omega))
  · rintro rfl j _; rfl
theorem sameAcc_step {x y : List Nat} (hx : W8 x) (hy : W8 y) (k : Nat) :
    bits .or .u8 (sameAcc x y k : Int) (bits .xor .u8 (at0 x k : Int) (at0 y k : Int)) = (sameAcc x y (k + 1) : Int) := by
  have h1 := hx.at k
  have h2 := hy.at k
  rw [u8_xor_nat _ _ h1 h2, u8_or_nat _ _ (sameAcc_lt hx hy k) (Nat.xor_lt_two_pow (n := 8) (by omega) (by omega))]
  rfl

/-! SHA-256 -/
def rotr (x n : Nat) : Nat := (x / 2 ^ n) ||| (x * 2 ^ (32 - n) % 4294967296)
def initN : List Nat := [0x6a09e667, 0xbb67ae85, 0x3c6ef372, 0xa54ff53a, 0x510e527f, 0x9b05688c, 0x1f83d9ab, 0x5be0cd19]
def KN : List Nat := [
    0x428a2f98, 0x71374491, 0xb5c0fbcf, 0xe9b5dba5, 0x3956c25b, 0x59f111f1, 0x923f82a4, 0xab1c5ed5,
    0xd807aa98, 0x12835b01, 0x243185be, 0x550c7dc3, 0x72be5d74, 0x80deb1fe, 0x9bdc06a7, 0xc19bf174,
    0xe49b69c1, 0xefbe4786, 0x0fc19dc6, 0x240ca1cc, 0x2de92c6f, 0x4a7484aa, 0x5cb0a9dc, 0x76f988da,
    0x983e5152, 0xa831c66d, 0xb00327c8, 0xbf597fc7, 0xc6e00bf3, 0xd5a79147, 0x06ca6351, 0x14292967,
    0x27b70a85, 0x2e1b2138, 0x4d2c6dfc, 0x53380d13, 0x650a7354, 0x766a0abb, 0x81c2c92e, 0x92722c85,
    0xa2bfe8a1, 0xa81a664b, 0xc24b8b70, 0xc76c51a3, 0xd192e819, 0xd6990624, 0xf40e3585, 0x106aa070,
    0x19a4c116, 0x1e376c08, 0x2748774c, 0x34b0bcb5, 0x391c0cb3, 0x4ed8aa4a, 0x5b9cca4f, 0x682e6ff3,
    0x748f82ee, 0x78a5636f, 0x84c87814, 0x8cc70208, 0x90befffa, 0xa4506ceb, 0xbef9a3f7, 0xc67178f2]
def lsig1 (x : Nat) : Nat := rotr x 17 ^^^ rotr x 19 ^^^ (x / 1024)
def lsig0 (y : Nat) : Nat := rotr y 7 ^^^ rotr y 18 ^^^ (y / 8)
def usig1 (e : Nat) : Nat := rotr e 6 ^^^ rotr e 11 ^^^ rotr e 25
def usig0 (a : Nat) : Nat := rotr a 2 ^^^ rotr a 13 ^^^ rotr a 22
def ch (e f g : Nat) : Nat := (e &&& f) ^^^ ((4294967295 - e) &&& g)
def maj (a b c : Nat) : Nat := (a &&& b) ^^^ (a &&& c) ^^^ (b &&& c)
def word (b : List Nat) (t : Nat) : Nat := at0 b (4 * t) * 16777216 + at0 b (4 * t + 1) * 65536 + at0 b (4 * t + 2) * 256 + at0 b (4 * t + 3)
def extW (l : List Nat) (k : Nat) : Nat := (lsig1 (at0 l (k - 2)) + at0 l (k - 7) + lsig0 (at0 l (k - 15)) + at0 l (k - 16)) % 4294967296
def wordsN (b : List Nat) : Nat → List Nat
  | 0 => []
  | k + 1 => wordsN b k ++ [if k < 16 then word b k else extW (wordsN b k) k]
structure S8 where
  a : Nat
  b : Nat
  c : Nat
  d : Nat
  e : Nat
  f : Nat
  g : Nat
  h : Nat
def T1 (s : S8) (kt wt : Nat) : Nat := (s.h + usig1 s.e + ch s.e s.f s.g + kt + wt) % 4294967296
def T2 (s : S8) : Nat := (usig0 s.a + maj s.a s.b s.c) % 4294967296
def roundN (s : S8) (kt wt : Nat) : S8 := ⟨(T1 s kt wt + T2 s) % 4294967296, s.a, s.b, s.c, (s.d + T1 s kt wt) % 4294967296, s.e, s.f, s.g⟩
def roundsN (W : List Nat) (s : S8) : Nat → S8
  | 0 => s
  | k + 1 => roundN (roundsN W s k) (at0 KN k) (at0 W k)
def s8 (st : List Nat) : S8 := ⟨at0 st 0, at0 st 1, at0 st 2, at0 st 3, at0 st 4, at0 st 5, at0 st 6, at0 st 7⟩
def addS (st : List Nat) (r : S8) : List Nat :=
  [(at0 st 0 + r.a) % 4294967296, (at0 st 1 + r.b) % 4294967296, (at0 st 2 + r.c) % 4294967296, (at0 st 3 + r.d) % 4294967296,
   (at0 st 4 + r.e) % 4294967296, (at0 st 5 + r.f) % 4294967296, (at0 st 6 + r.g) % 4294967296, (at0 st 7 + r.h) % 4294967296]
def absorbN (st b : List Nat) : List Nat := addS st (roundsN (wordsN b 64) (s8 st) 64)
def absorbK (st l : List Nat) : Nat → List Nat
  | 0 => st
  | k + 1 => absorbN (absorbK st l k) ((l.drop (64 * k)).take 64)
def byteOf (st : List Nat) (i : Nat) : Nat := at0 st (i / 4) / 2 ^ (24 - i % 4 * 8) % 256
def bytesN (st : List Nat) : List Nat := (List.range 32).map (byteOf st)
def be8 (n : Nat) : List Nat := (List.range 8).map fun i => n / 2 ^ (56 - 8 * i) % 256
def padded (ahead : Nat) (b : List Nat) : List Nat := b ++ (128 :: (List.replicate ((119 - b.length % 64) % 64) 0 ++ be8 (8 * (ahead + b.length))))
def finishN (st : List Nat) (ahead : Nat) (b : List Nat) : List Nat := bytesN (absorbK st (padded ahead b) ((padded ahead b).length / 64))
def sumN (b : List Nat) : List Nat := finishN initN 0 b
def maskN (b : List Nat) (m : Nat) : List Nat := b.map (· ^^^ m)
def keyN (key : List Nat) : List Nat := let k := if key.length > 64 then sumN key else key; k ++ List.replicate (64 - k.length) 0
def macN (key b : List Nat) : List Nat :=
  finishN (absorbN initN (maskN (keyN key) 92)) 64 (finishN (absorbN initN (maskN (keyN key) 54)) 64 b)

end Go.Proofs.Ytiigbhpnlpbnjaa
