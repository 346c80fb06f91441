/- Frames and entries are read as they were: mathematics of layer 9's laws. Any seat. -/
import Derived.Test.YtoadlnnhlnhkjaaWm
namespace Go.Proofs.Ytoadlnnhlnhkjaa
open Go.RowKit
set_option maxRecDepth 100000
set_option linter.unusedSimpArgs false
set_option linter.unusedVariables false

section
variable {f g : Fm} {x y : En} {b r A B C : List UInt8} {n : Int} {k : Nat}
theorem num_big (h0 : 0 ≤ n) (h : n < 4294967296) : numL (bigL n) = n := by
  show u8 (byteU (n / 16777216)) * 16777216 + u8 (byteU (n / 65536)) * 65536 + u8 (byteU (n / 256)) * 256 + u8 (byteU n) = n
  rw [u8_byte, u8_byte, u8_byte, u8_byte]
  omega
theorem said_len (f : Fm) : (saidL f).length = 10 + f.text.length := by simp [saidL, bigL]; omega
theorem said_cons (f : Fm) (r : List UInt8) : saidL f ++ r = byteU f.kind :: byteU f.frm :: byteU f.dst :: byteU f.org :: byteU (f.seq / 16777216) :: byteU (f.seq / 65536) :: byteU (f.seq / 256) :: byteU f.seq :: byteU (((f.text.length : Nat) : Int) / 256) :: byteU ((f.text.length : Nat) : Int) :: (f.text ++ r) := by
  simp [saidL, bigL]
theorem lenF_said (h : rightF f = true) (r : List UInt8) : lenF (saidL f ++ r) = ((f.text.length : Nat) : Int) := by
  have hr := rightF_iff.1 h
  rw [said_cons]
  show u8 (byteU (((f.text.length : Nat) : Int) / 256)) * 256 + u8 (byteU ((f.text.length : Nat) : Int)) = _
  rw [u8_byte, u8_byte]; omega
theorem takeF_said (h : rightF f = true) (r : List UInt8) : takeF (saidL f ++ (f.tag.l ++ r)) = f := by
  have hr := rightF_iff.1 h
  have hl := lenF_said h (f.tag.l ++ r)
  have ht := f.tag.h
  unfold takeF takeI
  rw [hl, Int.toNat_natCast]
  have e1 : ((saidL f ++ (f.tag.l ++ r)).drop 10).take f.text.length = f.text := by
    rw [said_cons]; show (f.text ++ (f.tag.l ++ r)).take f.text.length = f.text
    exact List.take_left
  have e2 : ((saidL f ++ (f.tag.l ++ r)).drop (10 + f.text.length)).take 32 = f.tag.l := by
    rw [← said_len, List.drop_left, ← ht, List.take_left]
  have e3 : ((saidL f ++ (f.tag.l ++ r)).drop 4).take 4 = bigL f.seq := by rw [said_cons]; rfl
  rw [e1, e2, e3, num_big (by omega) (by omega), ofL_own]
  have a0 : u8 (atU (saidL f ++ (f.tag.l ++ r)) 0) = f.kind := by rw [said_cons]; show u8 (byteU f.kind) = _; rw [u8_byte]; omega
  have a1 : u8 (atU (saidL f ++ (f.tag.l ++ r)) 1) = f.frm := by rw [said_cons]; show u8 (byteU f.frm) = _; rw [u8_byte]; omega
  have a2 : u8 (atU (saidL f ++ (f.tag.l ++ r)) 2) = f.dst := by rw [said_cons]; show u8 (byteU f.dst) = _; rw [u8_byte]; omega
  have a3 : u8 (atU (saidL f ++ (f.tag.l ++ r)) 3) = f.org := by rw [said_cons]; show u8 (byteU f.org) = _; rw [u8_byte]; omega
  rw [a0, a1, a2, a3]
theorem frame_len (h : rightF f = true) : (frameL f).length = f.text.length + 42 := by
  rw [(frame_ok h).1, List.length_append, said_len, f.tag.h]; omega
theorem frame_right (h : frameE f = 0) : rightF f = true := by
  unfold frameE at h
  split at h
  · assumption
  · cases h
theorem entry_right (h : entryE x = 0) : rightN x = true := by
  unfold entryE at h
  split at h
  · assumption
  · cases h
theorem readF_any (h : rightF f = true) (r : List UInt8) : readF (frameL f ++ r) = if r = [] then (f, 0) else (Fm.zero, 2) := by
  have h1 := frame_len h
  have ht := takeF_said h r
  have hl := lenF_said h (f.tag.l ++ r)
  rw [← List.append_assoc, ← (frame_ok h).1] at ht hl
  by_cases e : r = []
  · rw [if_pos e]
    subst e
    rw [List.append_nil] at ht hl ⊢
    rw [readF_yes (by omega) (by rw [hl]; omega) (by rw [ht]; exact (frame_ok h).2) (by rw [ht]), ht]
  · rw [if_neg e]
    exact readF_bad (by rw [List.length_append]; omega) (by rw [hl, List.length_append]; omega) (.inr (by rw [ht]; intro z; have := congrArg List.length z; rw [List.length_append] at this; exact e (List.eq_nil_of_length_eq_zero (by omega))))
theorem readF_own (h : frameE f = 0) : readF (frameL f) = (f, 0) := by
  have := readF_any (frame_right h) []
  rwa [List.append_nil, if_pos rfl] at this
theorem readF_ok (h : (readF b).2 = 0) : frameE (readF b).1 = 0 ∧ frameL (readF b).1 = b := by
  unfold readF at h ⊢
  split at h
  · cases h
  · rename_i h1
    rw [if_neg h1]
    split at h
    · cases h
    · rename_i h2
      rw [if_neg h2]
      split at h
      · rename_i h3; rw [if_pos h3]; exact h3
      · cases h
theorem atU_take (h : k < n.toNat) : atU (b.take n.toNat) k = atU b k := by
  unfold atU atE; rw [List.getD_eq_getElem?_getD, List.getD_eq_getElem?_getD, List.getElem?_take, if_pos h]
theorem readF_cut (h : frameE f = 0) (h0 : 0 ≤ n) (hn : n < ((frameL f).length : Int)) : (readF ((frameL f).take n.toNat)).2 = 3 := by
  have hr := frame_right h
  have h1 := frame_len hr
  have hl := lenF_said hr f.tag.l
  rw [← (frame_ok hr).1] at hl
  have hlen : ((frameL f).take n.toNat).length = n.toNat := by rw [List.length_take]; omega
  rw [readF_short]
  by_cases h2 : n < 10
  · left; omega
  · right
    have : lenF ((frameL f).take n.toNat) = lenF (frameL f) := by unfold lenF; rw [atU_take (by omega), atU_take (by omega)]
    rw [this, hl, hlen]; omega
theorem readF_more (h : frameE f = 0) : (readF (frameL f ++ [0])).2 = 2 := by
  rw [readF_any (frame_right h), if_neg (by simp)]
theorem frame_inj (h : frameE f = 0) (h' : frameE g = 0) : frameL f = frameL g ↔ f = g := by
  refine ⟨fun e => ?_, fun e => by rw [e]⟩
  have h1 := readF_own h
  have h2 := readF_own h'
  rw [e, h2] at h1
  exact (congrArg Prod.fst h1).symm
theorem said_inj (h : frameE f = 0) (h' : frameE g = 0) : saidL f = saidL g ↔ { f with tag := g.tag } = g := by
  have e0 : saidL { f with tag := g.tag } = saidL f := rfl
  have hr : rightF { f with tag := g.tag } = true := frame_right h
  have h1 : frameE { f with tag := g.tag } = 0 := (frame_ok hr).2
  rw [← frame_inj h1 h', (frame_ok hr).1, (frame_ok (frame_right h')).1, e0]
  exact ⟨fun e => by rw [e], fun e => List.append_cancel_right e⟩
theorem frame_parts (h : frameE f = 0) : (frameL f).length = f.text.length + 42 ∧ (saidL f).length = (frameL f).length - 32 ∧ (frameL f).take (saidL f).length = saidL f ∧ (frameL f).drop (saidL f).length = f.tag.l ∧ f.text.length ≤ 400 := by
  have hr := frame_right h
  have h1 := frame_len hr
  have h2 := said_len f
  refine ⟨h1, by omega, ?_, ?_, (rightF_iff.1 hr).2.2.2.2.2⟩
  · rw [(frame_ok hr).1, List.take_left]
  · rw [(frame_ok hr).1, List.drop_left]
theorem frame_nil (h : ¬ frameE f = 0) : (frameL f).length = 0 := by
  unfold frameE at h
  unfold frameL
  split at h
  · exact absurd rfl h
  · rename_i z; rw [if_neg z]; rfl
/-! ### Entries -/
theorem mid_at (hA : A.length = 5) (hB : B.length = 32) (i : Nat) : atU (A ++ (B ++ C)) (37 + i) = atU C i := by
  unfold atU atE
  rw [List.getD_eq_getElem?_getD, List.getD_eq_getElem?_getD, List.getElem?_append_right (by omega), List.getElem?_append_right (by omega)]
  congr 2; omega
theorem mid_drop (hA : A.length = 5) (hB : B.length = 32) (i : Nat) : (A ++ (B ++ C)).drop (37 + i) = C.drop i := by
  rw [List.drop_append, List.drop_of_length_le (by omega), List.nil_append, List.drop_append, List.drop_of_length_le (by omega), List.nil_append]
  congr 1; omega
def tailN (x : En) (r : List UInt8) : List UInt8 := byteU x.po.n :: (bigL x.po.t.e ++ (bigL x.po.t.r ++ (byteU x.edge :: byteU x.peer :: (bigL x.n ++ (List.replicate 11 0 ++ r)))))
theorem bytes_parts (x : En) (r : List UInt8) : bytesN x ++ r = (byteU x.kind :: bigL x.seq) ++ (x.prev.l ++ tailN x r) := by
  simp [bytesN, headN, tailN]
theorem takeN_bytes (h : rightN x = true) (r : List UInt8) : takeN (bytesN x ++ r) = x := by
  have hr := rightN_iff.1 h
  have ht := St.right_iff.1 hr.2.2.2.1
  have hp := x.prev.h
  have hA : (byteU x.kind :: bigL x.seq).length = 5 := rfl
  unfold takeN
  rw [bytes_parts]
  have d1 : (((byteU x.kind :: bigL x.seq) ++ (x.prev.l ++ tailN x r)).drop 1).take 4 = bigL x.seq := rfl
  have d5 : (((byteU x.kind :: bigL x.seq) ++ (x.prev.l ++ tailN x r)).drop 5).take 32 = x.prev.l := by
    rw [← hA, List.drop_left, ← hp, List.take_left]
  have d38 : (((byteU x.kind :: bigL x.seq) ++ (x.prev.l ++ tailN x r)).drop 38).take 4 = bigL x.po.t.e := by
    rw [mid_drop hA hp 1]; rfl
  have d42 : (((byteU x.kind :: bigL x.seq) ++ (x.prev.l ++ tailN x r)).drop 42).take 4 = bigL x.po.t.r := by
    rw [mid_drop hA hp 5]; rfl
  have d48 : (((byteU x.kind :: bigL x.seq) ++ (x.prev.l ++ tailN x r)).drop 48).take 4 = bigL x.n := by
    rw [mid_drop hA hp 11]; rfl
  have a0 : u8 (atU ((byteU x.kind :: bigL x.seq) ++ (x.prev.l ++ tailN x r)) 0) = x.kind := by show u8 (byteU x.kind) = _; rw [u8_byte]; omega
  have a37 : u8 (atU ((byteU x.kind :: bigL x.seq) ++ (x.prev.l ++ tailN x r)) 37) = x.po.n := by rw [mid_at hA hp 0]; show u8 (byteU x.po.n) = _; rw [u8_byte]; omega
  have a46 : u8 (atU ((byteU x.kind :: bigL x.seq) ++ (x.prev.l ++ tailN x r)) 46) = x.edge := by rw [mid_at hA hp 9]; show u8 (byteU x.edge) = _; rw [u8_byte]; omega
  have a47 : u8 (atU ((byteU x.kind :: bigL x.seq) ++ (x.prev.l ++ tailN x r)) 47) = x.peer := by rw [mid_at hA hp 10]; show u8 (byteU x.peer) = _; rw [u8_byte]; omega
  rw [d1, d5, d38, d42, d48, a0, a37, a46, a47, num_big (by omega) (by omega), num_big (by omega) (by omega), num_big (by omega) (by omega), num_big (by omega) (by omega), ofL_own]
theorem readN_any (h : rightN x = true) (r : List UInt8) : readN (entryL x ++ r) = if r = [] then (x, 0) else (En.zero, 2) := by
  have hb := bytes_len x
  have ht := takeN_bytes h r
  rw [(entry_ok h).1]
  by_cases e : r = []
  · rw [if_pos e]
    subst e
    rw [List.append_nil] at ht ⊢
    rw [readN_yes (by omega) (by rw [ht]; exact (entry_ok h).2) (by rw [ht]; exact (entry_ok h).1), ht]
  · rw [if_neg e]
    exact readN_bad (by rw [List.length_append]; omega) (.inr (by rw [ht, (entry_ok h).1]; intro z; have := congrArg List.length z; rw [List.length_append] at this; exact e (List.eq_nil_of_length_eq_zero (by omega))))
theorem readN_own (h : entryE x = 0) : readN (entryL x) = (x, 0) := by
  have := readN_any (entry_right h) []
  rwa [List.append_nil, if_pos rfl] at this
theorem readN_ok (h : (readN b).2 = 0) : entryE (readN b).1 = 0 ∧ entryL (readN b).1 = b := by
  unfold readN at h ⊢
  split at h
  · cases h
  · rename_i h1
    rw [if_neg h1]
    split at h
    · rename_i h3; rw [if_pos h3]; exact h3
    · cases h
theorem entry_len (h : entryE x = 0) : (entryL x).length = 63 := by rw [(entry_ok (entry_right h)).1]; exact bytes_len x
theorem readN_cut (h : entryE x = 0) (h0 : 0 ≤ n) (hn : n < ((entryL x).length : Int)) : (readN ((entryL x).take n.toNat)).2 = 3 := by
  have := entry_len h
  rw [readN_short (by rw [List.length_take]; omega)]
theorem readN_more (h : entryE x = 0) (u : UInt8) : (readN (entryL x ++ [u])).2 = 2 := by
  rw [readN_any (entry_right h), if_neg (by simp)]
theorem entry_inj (h : entryE x = 0) (h' : entryE y = 0) : entryL x = entryL y ↔ x = y := by
  refine ⟨fun e => ?_, fun e => by rw [e]⟩
  have h1 := readN_own h
  have h2 := readN_own h'
  rw [e, h2] at h1
  exact (congrArg Prod.fst h1).symm
theorem entry_len_le (x : En) : (entryL x).length ≤ 63 := by
  unfold entryL; split
  · rw [bytes_len]; omega
  · simp
theorem frame_len_le (f : Fm) : (frameL f).length ≤ 442 := by
  unfold frameL; split
  · rename_i h; have := frame_len h; rw [(frame_ok h).1] at this; have := (rightF_iff.1 h).2.2.2.2.2; omega
  · simp
end
end Go.Proofs.Ytoadlnnhlnhkjaa
