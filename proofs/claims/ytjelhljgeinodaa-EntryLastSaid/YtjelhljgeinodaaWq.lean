/- Frames and entries that are read piece by piece: mathematics. Any seat. -/
import Derived.Test.YtjelhljgeinodaaWn
import Derived.Test.YtjelhljgeinodaaPn
namespace Go.Proofs.Ytjelhljgeinodaa
open Go.RowKit
set_option maxRecDepth 100000
set_option linter.unusedSimpArgs false
set_option linter.unusedVariables false

section
variable {L X : List UInt8} {s k t : Nat}
theorem cut_one (h : s < L.length) : L.drop s = atU L s :: L.drop (s + 1) := by
  rw [atU_eq h]; exact List.drop_eq_getElem_cons h
theorem cut_seg : L.drop s = (L.drop s).take k ++ L.drop (s + k) := by
  rw [← List.drop_drop, List.take_append_drop]
theorem seg_len (h : s + k ≤ L.length) : ((L.drop s).take k).length = k := by
  rw [List.length_take, List.length_drop]; omega
theorem num1 (h : s < L.length) : numB ((L.drop s).take 1) = u8 (atU L s) := by
  rw [cut_one h]; simp [numB]
theorem num2 (h : 10 ≤ L.length) : numB ((L.drop 8).take 2) = lenF L := by
  rw [cut_one (s := 8) (by omega), cut_one (s := 9) (by omega)]
  simp [numB, lenF]
theorem numB_four (h : X.length = 4) : numB X = numL X := by
  match X, h with
  | [a, b, c, d], _ =>
    show (((0 * 256 + u8 a) * 256 + u8 b) * 256 + u8 c) * 256 + u8 d = u8 a * 16777216 + u8 b * 65536 + u8 c * 256 + u8 d
    omega
theorem big_num (h : X.length = 4) : bigL (numL X) = X := by
  match X, h with
  | [a, b, c, d], _ =>
    have ha := u8_lt a; have hb := u8_lt b; have hc := u8_lt c; have hd := u8_lt d
    have e : numL [a, b, c, d] = u8 a * 16777216 + u8 b * 65536 + u8 c * 256 + u8 d := rfl
    rw [e]
    unfold bigL
    rw [show byteU ((u8 a * 16777216 + u8 b * 65536 + u8 c * 256 + u8 d) / 16777216) = a from u8_inj (by rw [u8_byte]; omega),
      show byteU ((u8 a * 16777216 + u8 b * 65536 + u8 c * 256 + u8 d) / 65536) = b from u8_inj (by rw [u8_byte]; omega),
      show byteU ((u8 a * 16777216 + u8 b * 65536 + u8 c * 256 + u8 d) / 256) = c from u8_inj (by rw [u8_byte]; omega),
      show byteU (u8 a * 16777216 + u8 b * 65536 + u8 c * 256 + u8 d) = d from u8_inj (by rw [u8_byte]; omega)]
theorem num4 (h : s + 4 ≤ L.length) : numB ((L.drop s).take 4) = numL ((L.drop s).take 4) := numB_four (seg_len h)
theorem readFm (h : 10 ≤ L.length) (ht : numB ((L.drop 8).take 2) = (t : Int)) : Fm.mk (numB ((L.drop 0).take 1)) (numB ((L.drop 1).take 1)) (numB ((L.drop 2).take 1)) (numB ((L.drop 3).take 1)) (numB ((L.drop 4).take 4)) ((L.drop 10).take t) (B32.ofL ((L.drop (10 + t)).take 32)) = takeF L ∧ (lenF L).toNat = t := by
  rw [num2 h] at ht
  refine ⟨?_, by rw [ht]; rfl⟩
  unfold takeF takeI
  rw [num1 (by omega), num1 (by omega), num1 (by omega), num1 (by omega), num4 (by omega), ht, Int.toNat_natCast]
theorem frame_back (h1 : 10 ≤ L.length) (h2 : L.length = 42 + (lenF L).toNat) (hr : rightF (takeF L) = true) : frameL (takeF L) = L := by
  rw [(frame_ok hr).1]
  have hl := len_lt L
  generalize ht : (lenF L).toNat = t at h2
  have hlt : lenF L = (t : Int) := by omega
  have hz : lenF L = u8 (atU L 8) * 256 + u8 (atU L 9) := rfl
  have h8 := u8_lt (atU L 8)
  have h9 := u8_lt (atU L 9)
  have e : takeF L = ⟨u8 (atU L 0), u8 (atU L 1), u8 (atU L 2), u8 (atU L 3), numL ((L.drop 4).take 4), (L.drop 10).take t, B32.ofL ((L.drop (10 + t)).take 32)⟩ := by
    unfold takeF takeI; rw [ht]
  have etl : ((L.drop 10).take t).length = t := seg_len (by omega)
  rw [e]
  unfold saidL
  simp only [etl, byte_u8, big_num (seg_len (show 4 + 4 ≤ L.length by omega)), ofL_full (seg_len (show 10 + t + 32 ≤ L.length by omega))]
  rw [show byteU ((t : Int) / 256) = atU L 8 from u8_inj (by rw [u8_byte]; omega), show byteU (t : Int) = atU L 9 from u8_inj (by rw [u8_byte]; omega)]
  have e0 : L = L.drop 0 := rfl
  have e32 : (L.drop (10 + t)).take 32 = L.drop (10 + t) := List.take_of_length_le (by rw [List.length_drop]; omega)
  rw [e32]
  conv => rhs; rw [e0, cut_one (s := 0) (by omega), cut_one (s := 0 + 1) (by omega), cut_one (s := 0 + 1 + 1) (by omega), cut_one (s := 0 + 1 + 1 + 1) (by omega), cut_seg (s := 0 + 1 + 1 + 1 + 1) (k := 4), cut_one (s := 0 + 1 + 1 + 1 + 1 + 4) (by omega), cut_one (s := 0 + 1 + 1 + 1 + 1 + 4 + 1) (by omega), cut_seg (s := 0 + 1 + 1 + 1 + 1 + 4 + 1 + 1) (k := t)]
  simp
theorem readF_back (h1 : 10 ≤ L.length) (h2 : L.length = 42 + (lenF L).toNat) (hr : rightF (takeF L) = true) : readF L = (takeF L, 0) := by
  have := len_lt L
  exact readF_yes (by omega) (by omega) (frame_ok hr).2 (frame_back h1 h2 hr)
theorem readF_wrong (h1 : 10 ≤ L.length) (h2 : 42 + (lenF L).toNat ≤ L.length) (hr : rightF (takeF L) = false ∨ ¬ L.length = 42 + (lenF L).toNat) : readF L = (Fm.zero, 2) := by
  have := len_lt L
  refine readF_bad (by omega) (by omega) ?_
  cases hb : rightF (takeF L)
  · exact .inl (by rw [(frame_no hb).2]; omega)
  · refine .inr (fun hz => ?_)
    have h3 := frame_len hb
    rw [hz] at h3
    have h4 : (takeF L).text.length = (lenF L).toNat := by
      show ((L.drop 10).take (lenF L).toNat).length = _
      exact seg_len (by omega)
    rw [hb] at hr
    rcases hr with h5 | h5
    · cases h5
    · omega
/-! ### Entries -/
theorem readEn (h : 63 ≤ L.length) : En.mk (numB ((L.drop 1).take 4)) (B32.ofL ((L.drop 5).take 32)) (numB ((L.drop 0).take 1)) (Po.mk (numB ((L.drop 37).take 1)) (St.mk (numB ((L.drop 38).take 4)) (numB ((L.drop 42).take 4)))) (numB ((L.drop 46).take 1)) (numB ((L.drop 47).take 1)) (numB ((L.drop 48).take 4)) = takeN L := by
  unfold takeN
  rw [num1 (by omega), num1 (by omega), num1 (by omega), num1 (by omega), num4 (by omega), num4 (by omega), num4 (by omega), num4 (by omega)]
def sparesL (L : List UInt8) : Prop := ∀ k, k < 11 → atU ((L.drop 52).take 11) k = 0
instance (L : List UInt8) : Decidable (sparesL L) := inferInstanceAs (Decidable (∀ k, k < 11 → atU ((L.drop 52).take 11) k = 0))
theorem spares_rep (h : L.length = 63) (hz : sparesL L) : L.drop 52 = List.replicate 11 0 := by
  apply List.ext_getElem
  · rw [List.length_drop, List.length_replicate]; omega
  · intro i h1 h2
    rw [List.length_replicate] at h2
    have h3 := hz i h2
    have h4 : i < ((L.drop 52).take 11).length := by rw [List.length_take, List.length_drop]; omega
    rw [atU_eq h4] at h3
    rw [List.getElem_replicate, ← h3, List.getElem_take]
theorem entry_back (h : L.length = 63) (hz : sparesL L) : bytesN (takeN L) = L := by
  unfold bytesN headN takeN
  simp only [byte_u8, big_num (seg_len (show 1 + 4 ≤ L.length by omega)), big_num (seg_len (show 38 + 4 ≤ L.length by omega)), big_num (seg_len (show 42 + 4 ≤ L.length by omega)), big_num (seg_len (show 48 + 4 ≤ L.length by omega)), ofL_full (seg_len (show 5 + 32 ≤ L.length by omega))]
  rw [← spares_rep h hz]
  have e0 : L = L.drop 0 := rfl
  conv => rhs; rw [e0, cut_one (s := 0) (by omega), cut_seg (s := 0 + 1) (k := 4), cut_seg (s := 0 + 1 + 4) (k := 32), cut_one (s := 0 + 1 + 4 + 32) (by omega), cut_seg (s := 0 + 1 + 4 + 32 + 1) (k := 4), cut_seg (s := 0 + 1 + 4 + 32 + 1 + 4) (k := 4), cut_one (s := 0 + 1 + 4 + 32 + 1 + 4 + 4) (by omega), cut_one (s := 0 + 1 + 4 + 32 + 1 + 4 + 4 + 1) (by omega), cut_seg (s := 0 + 1 + 4 + 32 + 1 + 4 + 4 + 1 + 1) (k := 4)]
  simp
theorem readN_back (h : L.length = 63) (hz : sparesL L) (hr : rightN (takeN L) = true) : readN L = (takeN L, 0) :=
  readN_yes (by omega) (entry_ok hr).2 (by rw [(entry_ok hr).1]; exact entry_back h hz)
theorem bytes_spare (x : En) : sparesL (bytesN x) := by
  intro k hk
  have h1 : (bytesN x).drop 52 = List.replicate 11 0 := by
    unfold bytesN; rw [← head_len x, List.drop_left]
  rw [h1]
  have h2 : k < ((List.replicate 11 (0 : UInt8)).take 11).length := by simp; omega
  rw [atU_eq h2, List.getElem_take, List.getElem_replicate]
theorem readN_wrong (h : 63 ≤ L.length) (hr : rightN (takeN L) = false ∨ ¬ sparesL L ∨ ¬ L.length = 63) : readN L = (En.zero, 2) := by
  refine readN_bad (by omega) ?_
  cases hb : rightN (takeN L)
  · exact .inl (by rw [(entry_no hb).2]; omega)
  · refine .inr (fun hz => ?_)
    rw [(entry_ok hb).1] at hz
    have h3 := bytes_len (takeN L)
    have h4 := bytes_spare (takeN L)
    rw [hz] at h3 h4
    rw [hb] at hr
    rcases hr with h5 | h5 | h5
    · cases h5
    · exact h5 h4
    · exact h5 h3
end
end Go.Proofs.Ytjelhljgeinodaa
