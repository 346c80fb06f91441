import Derived.Test.YtiigbhpnlpbnjaaWd
namespace Go.Proofs.Ytiigbhpnlpbnjaa
open Go.RowKit
theorem absorbK_append (st l m : List Nat) (k : Nat) (h : 64 * k ≤ l.length) : absorbK st (l ++ m) k = absorbK st l k := by
  induction k with
  | zero => rfl
  | succ k ih =>
    simp only [absorbK]
    rw [ih (by omega), List.drop_append_of_le_length (by omega), List.take_append_of_le_length (by rw [List.length_drop]; omega)]
theorem be8_length (n : Nat) : (be8 n).length = 8 := by simp [be8]
theorem be8_lt (n : Nat) : ∀ a ∈ be8 n, a < 256 := by
  intro a ha
  simp only [be8, List.mem_map] at ha
  obtain ⟨i, _, rfl⟩ := ha
  exact Nat.mod_lt _ (by omega)
theorem at0_be8 (n i : Nat) (hi : i < 8) : at0 (be8 n) i = n / 2 ^ (56 - 8 * i) % 256 := by
  rw [at0_eq (by rw [be8_length]; exact hi)]; simp [be8]

def lastBlk (l : List Nat) : List Nat := l.drop (64 * (l.length / 64)) ++ 128 :: List.replicate (63 - l.length % 64) 0
theorem drop_len (l : List Nat) : (l.drop (64 * (l.length / 64))).length = l.length % 64 := by rw [List.length_drop]; omega
theorem lastBlk_length (l : List Nat) : (lastBlk l).length = 64 := by
  simp only [lastBlk, List.length_append, List.length_cons, List.length_replicate, drop_len]; omega

theorem chunkOf (l m : List Nat) (k : Nat) (h : l.length = 64 * k) (hm : m.length = 64) (x : List Nat) : ((l ++ (m ++ x)).drop (64 * k)).take 64 = m := by
  rw [← h, List.drop_left, ← hm, List.take_left]

theorem finishN_lo (st : List Nat) (ahead : Nat) (l : List Nat) (h : l.length % 64 < 56) :
    finishN st ahead l = bytesN (absorbN (absorbK st l (l.length / 64)) ((lastBlk l).take 56 ++ be8 (8 * (ahead + l.length)))) := by
  unfold finishN
  have e1 : padded ahead l = l.take (64 * (l.length / 64)) ++ ((l.drop (64 * (l.length / 64)) ++ 128 :: (List.replicate (55 - l.length % 64) 0 ++ be8 (8 * (ahead + l.length)))) ++ []) := by
    rw [List.append_nil, ← List.append_assoc, List.take_append_drop]
    unfold padded
    rw [show (119 - l.length % 64) % 64 = 55 - l.length % 64 by omega]
  have e2 : (lastBlk l).take 56 ++ be8 (8 * (ahead + l.length)) = l.drop (64 * (l.length / 64)) ++ 128 :: (List.replicate (55 - l.length % 64) 0 ++ be8 (8 * (ahead + l.length))) := by
    have e3 : lastBlk l = (l.drop (64 * (l.length / 64)) ++ 128 :: List.replicate (55 - l.length % 64) 0) ++ List.replicate 8 0 := by
      unfold lastBlk
      rw [List.append_assoc, List.cons_append, List.replicate_append_replicate, show 55 - l.length % 64 + 8 = 63 - l.length % 64 by omega]
    rw [e3, List.take_append_of_le_length (by simp only [List.length_append, List.length_cons, List.length_replicate, drop_len]; omega), List.take_of_length_le (by simp only [List.length_append, List.length_cons, List.length_replicate, drop_len]; omega)]
    simp
  have hlen : (padded ahead l).length = 64 * (l.length / 64) + 64 := by
    simp only [padded, List.length_append, List.length_cons, List.length_replicate, be8_length]; omega
  rw [hlen, show (64 * (l.length / 64) + 64) / 64 = l.length / 64 + 1 by omega]
  simp only [absorbK]
  rw [show absorbK st (padded ahead l) (l.length / 64) = absorbK st l (l.length / 64) from absorbK_append st l _ _ (by omega), e1]
  rw [chunkOf _ _ _ (by rw [List.length_take]; omega) (by simp only [List.length_append, List.length_cons, List.length_replicate, be8_length, drop_len]; omega), e2]

theorem finishN_hi (st : List Nat) (ahead : Nat) (l : List Nat) (h : 56 ≤ l.length % 64) :
    finishN st ahead l = bytesN (absorbN (absorbN (absorbK st l (l.length / 64)) (lastBlk l)) (List.replicate 56 0 ++ be8 (8 * (ahead + l.length)))) := by
  unfold finishN
  have e1 : padded ahead l = l.take (64 * (l.length / 64)) ++ (lastBlk l ++ (List.replicate 56 0 ++ be8 (8 * (ahead + l.length)))) := by
    unfold lastBlk
    rw [List.append_assoc, ← List.append_assoc, List.take_append_drop]
    unfold padded
    rw [show (119 - l.length % 64) % 64 = (63 - l.length % 64) + 56 by omega, ← List.replicate_append_replicate]
    simp
  have hlen : (padded ahead l).length = 64 * (l.length / 64) + 128 := by
    simp only [padded, List.length_append, List.length_cons, List.length_replicate, be8_length]; omega
  rw [hlen, show (64 * (l.length / 64) + 128) / 64 = l.length / 64 + 1 + 1 by omega]
  simp only [absorbK]
  rw [show absorbK st (padded ahead l) (l.length / 64) = absorbK st l (l.length / 64) from absorbK_append st l _ _ (by omega), e1]
  rw [chunkOf _ _ _ (by rw [List.length_take]; omega) (lastBlk_length l)]
  rw [← List.append_assoc]
  have := chunkOf (l.take (64 * (l.length / 64)) ++ lastBlk l) (List.replicate 56 0 ++ be8 (8 * (ahead + l.length))) (l.length / 64 + 1) (by rw [List.length_append, lastBlk_length, List.length_take]; omega) (by simp [be8_length]) []
  rw [List.append_nil] at this
  rw [this]
end Go.Proofs.Ytiigbhpnlpbnjaa
