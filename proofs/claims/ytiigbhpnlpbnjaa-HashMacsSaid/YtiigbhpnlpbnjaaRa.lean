import Derived.Test.YtiigbhpnlpbnjaaLe
namespace Go.Proofs.Ytiigbhpnlpbnjaa
open Go.RowKit

def U64 (l : List Nat) : Array Value := (l.map (fun (x : Nat) => Value.int .u64 (x:Int))).toArray
theorem U64_get {x : List Nat} {k : Nat} (hk : k < x.length) : (U64 x)[k]? = some (.int .u64 ((at0 x k : Nat) : Int)) := by
  unfold U64; rw [at0_eq hk]; simp [hk]
theorem U64_size (x : List Nat) : (U64 x).size = x.length := by simp [U64]
theorem U64_one (l : List Nat) : (U64 l).all (·.oneCell') = true := by simp [U64, Value.oneCell']
theorem U64_list (l : List Nat) : (U64 l).toList = l.map (fun (x : Nat) => Value.int .u64 (x : Int)) := rfl

theorem turn_cast (x n : Nat) (hx : x < 4294967296) (hn : n ≤ 31) (h1 : 1 ≤ n) :
    bits .or .u64 ((x : Int) / 2 ^ n) ((x : Int) * 2 ^ (32 - n) % 18446744073709551616) % 4294967296 = (rotr x n : Int) := by
  have hb : x * 2 ^ (32 - n) < 18446744073709551616 := by
    have h2 : (2 : Nat) ^ (32 - n) ≤ 2 ^ 31 := Nat.pow_le_pow_right (by omega) (by omega)
    calc x * 2 ^ (32 - n) ≤ 4294967296 * 2 ^ 31 := Nat.mul_le_mul (by omega) h2
      _ < 18446744073709551616 := by decide
  have e1 : ((x : Int) / 2 ^ n) = ((x / 2 ^ n : Nat) : Int) := by simp
  have e2 : ((x : Int) * 2 ^ (32 - n) % 18446744073709551616) = ((x * 2 ^ (32 - n) : Nat) : Int) := by
    rw [show ((x : Int) * 2 ^ (32 - n)) = ((x * 2 ^ (32 - n) : Nat) : Int) by simp]
    generalize x * 2 ^ (32 - n) = z at *
    omega
  have hd : x / 2 ^ n < 4294967296 := Nat.lt_of_le_of_lt (Nat.div_le_self _ _) hx
  rw [e1, e2, u64_or_nat _ _ (by omega) hb]
  unfold rotr
  rw [show ((x / 2 ^ n ||| x * 2 ^ (32 - n) : Nat) : Int) % 4294967296 = (((x / 2 ^ n ||| x * 2 ^ (32 - n)) % 2 ^ 32 : Nat) : Int) by simp, Nat.or_mod_two_pow]
  rw [Nat.mod_eq_of_lt (a := x / 2 ^ n) (b := 2 ^ 32) (by simpa using hd)]

set_option maxHeartbeats 400000 in
theorem turn_any (x : Nat) (b : Int) (w : World) (hx : x < 4294967296) (hb : 1 ≤ b) (hb' : b ≤ 31) :
    Calls Try.prog 27 #[.int .u64 x, .int .u64 b] w fun e w' => e = .returned (.int .u64 (rotr x b.toNat)) ∧ w' = w := by
  go_enter Try.func27, Try.ntmps27
  go_wp2
  go_ret
  refine ⟨?_, rfl⟩
  have := turn_cast x b.toNat hx (by omega) (by omega)
  rw [show 32 - b.toNat = (32 - b).toNat from by omega] at this
  have hw : ∀ z : Int, IntKind.u64.wrap z = z % 18446744073709551616 := fun z => by simp [IntKind.wrap, IntKind.bits, IntKind.signed]
  have ht : ∀ z : Int, 0 ≤ z → z.tmod 4294967296 = z % 4294967296 := fun z hz => Int.tmod_eq_emod_of_nonneg hz
  have hnn : 0 ≤ bits BinOp.or IntKind.u64 ((x : Int) / 2 ^ b.toNat) ((x : Int) * 2 ^ (32 - b).toNat % 18446744073709551616) := by
    have hb : (x * 2 ^ (32 - b).toNat) % 18446744073709551616 < 18446744073709551616 := Nat.mod_lt _ (by omega)
    have hd : x / 2 ^ b.toNat < 18446744073709551616 := Nat.lt_of_le_of_lt (Nat.div_le_self _ _) (by omega)
    rw [show ((x : Int) / 2 ^ b.toNat) = ((x / 2 ^ b.toNat : Nat) : Int) by simp, show ((x : Int) * 2 ^ (32 - b).toNat % 18446744073709551616) = ((x * 2 ^ (32 - b).toNat % 18446744073709551616 : Nat) : Int) by simp, u64_or_nat _ _ hd hb]
    exact Int.natCast_nonneg _
  simp only [Array.getD, hw]
  rw [← this, ← ht _ hnn]
  simp

set_option maxRecDepth 100000 in
set_option maxHeartbeats 1000000 in
theorem rtable_any (w : World) :
    Calls Try.prog 26 #[] w fun e w' => e = .returned (.slice (some ⟨w.heap.size, 0, none⟩) 64 64) ∧ w' = w.alloc (.cells (U64 KN) 38) := by
  go_enter Try.func26, Try.ntmps26
  go_upto_region 1 with fail
  go_wp2
  go_ret
  exact ⟨rfl, rfl⟩

def POwn (base : Nat) (l : List Nat) (w : World) (e : Ending) (w' : World) : Prop := ∃ v, e = .returned v ∧ OwnB w' base v l ∧ Below w.heap.size w w'
end Go.Proofs.Ytiigbhpnlpbnjaa
