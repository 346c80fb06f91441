/- Frames and entries as bytes: mathematics. Any seat. -/
import Derived.Test.YtoadlnnhlnhkjaaUr
namespace Go.Proofs.Ytoadlnnhlnhkjaa
open Go.RowKit
set_option maxRecDepth 100000
set_option linter.unusedSimpArgs false
set_option linter.unusedVariables false

def bigL (n : Int) : List UInt8 := [byteU (n / 16777216), byteU (n / 65536), byteU (n / 256), byteU n]
def numL (b : List UInt8) : Int := u8 (atU b 0) * 16777216 + u8 (atU b 1) * 65536 + u8 (atU b 2) * 256 + u8 (atU b 3)
def rightF (f : Fm) : Bool := decide ((1 ≤ f.kind ∧ f.kind ≤ 4) ∧ (0 ≤ f.frm ∧ f.frm ≤ 6) ∧ (0 ≤ f.dst ∧ f.dst ≤ 6) ∧ (0 ≤ f.org ∧ f.org ≤ 6) ∧ (0 ≤ f.seq ∧ f.seq ≤ 1000000) ∧ f.text.length ≤ 400)
def saidL (f : Fm) : List UInt8 := [byteU f.kind, byteU f.frm, byteU f.dst, byteU f.org] ++ bigL f.seq ++ [byteU (((f.text.length : Nat) : Int) / 256), byteU ((f.text.length : Nat) : Int)] ++ f.text
def frameL (f : Fm) : List UInt8 := if rightF f = true then saidL f ++ f.tag.l else []
def frameE (f : Fm) : Int := if rightF f = true then 0 else 2
def lenF (b : List UInt8) : Int := u8 (atU b 8) * 256 + u8 (atU b 9)
def takeI (b : List UInt8) (i : Nat) : Fm := ⟨u8 (atU b 0), u8 (atU b 1), u8 (atU b 2), u8 (atU b 3), numL ((b.drop 4).take 4), (b.drop 10).take (lenF b).toNat, B32.ofL ((b.drop (10 + (lenF b).toNat)).take i)⟩
def takeF (b : List UInt8) : Fm := takeI b 32
def readF (b : List UInt8) : Fm × Int :=
  if b.length < 10 then (Fm.zero, 3)
  else if (b.length : Int) < 10 + lenF b + 32 then (Fm.zero, 3)
  else if frameE (takeF b) = 0 ∧ frameL (takeF b) = b then (takeF b, 0) else (Fm.zero, 2)
def rightN (x : En) : Bool := decide ((1 ≤ x.kind ∧ x.kind ≤ 5) ∧ (0 ≤ x.seq ∧ x.seq ≤ 1000000) ∧ (0 ≤ x.po.n ∧ x.po.n ≤ 7) ∧ x.po.t.rightB = true ∧ (0 ≤ x.edge ∧ x.edge ≤ 15) ∧ (0 ≤ x.peer ∧ x.peer ≤ 6) ∧ (1 ≤ x.n ∧ x.n ≤ 1000000))
def headN (x : En) : List UInt8 := [byteU x.kind] ++ bigL x.seq ++ x.prev.l ++ [byteU x.po.n] ++ bigL x.po.t.e ++ bigL x.po.t.r ++ [byteU x.edge, byteU x.peer] ++ bigL x.n
def bytesN (x : En) : List UInt8 := headN x ++ List.replicate 11 0
def entryL (x : En) : List UInt8 := if rightN x = true then bytesN x else []
def entryE (x : En) : Int := if rightN x = true then 0 else 2
def takeN (b : List UInt8) : En := ⟨numL ((b.drop 1).take 4), B32.ofL ((b.drop 5).take 32), u8 (atU b 0), ⟨u8 (atU b 37), ⟨numL ((b.drop 38).take 4), numL ((b.drop 42).take 4)⟩⟩, u8 (atU b 46), u8 (atU b 47), numL ((b.drop 48).take 4)⟩
def readN (b : List UInt8) : En × Int :=
  if b.length < 63 then (En.zero, 3)
  else if entryE (takeN b) = 0 ∧ entryL (takeN b) = b then (takeN b, 0) else (En.zero, 2)
theorem big_len (n : Int) : (bigL n).length = 4 := rfl
theorem rightF_iff {f : Fm} : rightF f = true ↔ (1 ≤ f.kind ∧ f.kind ≤ 4) ∧ (0 ≤ f.frm ∧ f.frm ≤ 6) ∧ (0 ≤ f.dst ∧ f.dst ≤ 6) ∧ (0 ≤ f.org ∧ f.org ≤ 6) ∧ (0 ≤ f.seq ∧ f.seq ≤ 1000000) ∧ f.text.length ≤ 400 := by unfold rightF; rw [decide_eq_true_iff]
theorem rightF_no {f : Fm} (h : ¬ ((1 ≤ f.kind ∧ f.kind ≤ 4) ∧ (0 ≤ f.frm ∧ f.frm ≤ 6) ∧ (0 ≤ f.dst ∧ f.dst ≤ 6) ∧ (0 ≤ f.org ∧ f.org ≤ 6) ∧ (0 ≤ f.seq ∧ f.seq ≤ 1000000) ∧ f.text.length ≤ 400)) : rightF f = false := by unfold rightF; exact decide_eq_false h
theorem rightN_iff {x : En} : rightN x = true ↔ (1 ≤ x.kind ∧ x.kind ≤ 5) ∧ (0 ≤ x.seq ∧ x.seq ≤ 1000000) ∧ (0 ≤ x.po.n ∧ x.po.n ≤ 7) ∧ x.po.t.rightB = true ∧ (0 ≤ x.edge ∧ x.edge ≤ 15) ∧ (0 ≤ x.peer ∧ x.peer ≤ 6) ∧ (1 ≤ x.n ∧ x.n ≤ 1000000) := by unfold rightN; rw [decide_eq_true_iff]
theorem rightN_no {x : En} (h : ¬ ((1 ≤ x.kind ∧ x.kind ≤ 5) ∧ (0 ≤ x.seq ∧ x.seq ≤ 1000000) ∧ (0 ≤ x.po.n ∧ x.po.n ≤ 7) ∧ x.po.t.rightB = true ∧ (0 ≤ x.edge ∧ x.edge ≤ 15) ∧ (0 ≤ x.peer ∧ x.peer ≤ 6) ∧ (1 ≤ x.n ∧ x.n ≤ 1000000))) : rightN x = false := by unfold rightN; exact decide_eq_false h
theorem take_zero (b : List UInt8) : takeI b (0 : Int).toNat = { takeI b 0 with tag := B32.zero } := by
  unfold takeI
  simp only [Fm.mk.injEq, true_and]
  rw [← ofL_nil]; rfl
theorem take_start {b : List UInt8} : Fm.mk (u8 (atU b 0)) (u8 (atU b 1)) (u8 (atU b 2)) (u8 (atU b 3)) (numL ((b.drop 4).take 4)) ((b.drop 10).take ((10 + (u8 (atU b 8) * 256 + u8 (atU b 9))).toNat - 10)) B32.zero = takeI b (0 : Int).toNat := by
  have h8 := u8_lt (atU b 8)
  have h9 := u8_lt (atU b 9)
  rw [take_zero]
  simp only [takeI, lenF, Fm.mk.injEq, true_and, and_true]
  congr 1
  omega
theorem take_step {b : List UInt8} {i : Int} (h0 : 0 ≤ i) (hi : i < 32) (hl : 10 + lenF b + 32 ≤ (b.length : Int)) (hn : 0 ≤ lenF b) : { takeI b i.toNat with tag := (takeI b i.toNat).tag.put i.toNat (atU b (10 + lenF b + i).toNat) } = takeI b (i + 1).toNat := by
  have h1 := ofL_put (L := b.drop (10 + (lenF b).toNat)) h0 hi (by rw [List.length_drop]; omega)
  have h2 : atU (b.drop (10 + (lenF b).toNat)) i.toNat = atU b (10 + lenF b + i).toNat := by
    unfold atU atE
    rw [List.getD_eq_getElem?_getD, List.getD_eq_getElem?_getD, List.getElem?_drop, show 10 + (lenF b).toNat + i.toNat = (10 + lenF b + i).toNat by omega]
  rw [h2] at h1
  unfold takeI
  simp only [Fm.mk.injEq, true_and]
  exact h1
theorem frame_ok {f : Fm} (h : rightF f = true) : frameL f = saidL f ++ f.tag.l ∧ frameE f = 0 := ⟨if_pos h, if_pos h⟩
theorem frame_no {f : Fm} (h : rightF f = false) : frameL f = [] ∧ frameE f = 2 := ⟨if_neg (by rw [h]; simp), if_neg (by rw [h]; simp)⟩
theorem entry_ok {x : En} (h : rightN x = true) : entryL x = bytesN x ∧ entryE x = 0 := ⟨if_pos h, if_pos h⟩
theorem entry_no {x : En} (h : rightN x = false) : entryL x = [] ∧ entryE x = 2 := ⟨if_neg (by rw [h]; simp), if_neg (by rw [h]; simp)⟩
theorem readF_short {b : List UInt8} (h : b.length < 10 ∨ (b.length : Int) < 10 + lenF b + 32) : readF b = (Fm.zero, 3) := by
  unfold readF
  by_cases h1 : b.length < 10
  · rw [if_pos h1]
  · rw [if_neg h1, if_pos (h.resolve_left h1)]
theorem readF_yes {b : List UInt8} (h1 : ¬ b.length < 10) (h2 : ¬ (b.length : Int) < 10 + lenF b + 32) (h3 : frameE (takeF b) = 0) (h4 : frameL (takeF b) = b) : readF b = (takeF b, 0) := by
  unfold readF; rw [if_neg h1, if_neg h2, if_pos ⟨h3, h4⟩]
theorem readF_bad {b : List UInt8} (h1 : ¬ b.length < 10) (h2 : ¬ (b.length : Int) < 10 + lenF b + 32) (h : ¬ frameE (takeF b) = 0 ∨ ¬ frameL (takeF b) = b) : readF b = (Fm.zero, 2) := by
  unfold readF; rw [if_neg h1, if_neg h2, if_neg (fun z => h.elim (fun k => k z.1) (fun k => k z.2))]
theorem readN_short {b : List UInt8} (h : b.length < 63) : readN b = (En.zero, 3) := if_pos h
theorem readN_yes {b : List UInt8} (h1 : ¬ b.length < 63) (h3 : entryE (takeN b) = 0) (h4 : entryL (takeN b) = b) : readN b = (takeN b, 0) := by
  unfold readN; rw [if_neg h1, if_pos ⟨h3, h4⟩]
theorem readN_bad {b : List UInt8} (h1 : ¬ b.length < 63) (h : ¬ entryE (takeN b) = 0 ∨ ¬ entryL (takeN b) = b) : readN b = (En.zero, 2) := by
  unfold readN; rw [if_neg h1, if_neg (fun z => h.elim (fun k => k z.1) (fun k => k z.2))]
/-! ### Entries, step by step -/
theorem head_len (x : En) : (headN x).length = 52 := by simp [headN, bigL, x.prev.h]
theorem bytes_len (x : En) : (bytesN x).length = 63 := by unfold bytesN; rw [List.length_append, head_len, List.length_replicate]
theorem pad_len (x : En) (k : Nat) : (headN x ++ List.replicate k 0).length = 52 + k := by rw [List.length_append, head_len, List.length_replicate]
theorem pad_zero (x : En) : headN x ++ List.replicate (0 : Int).toNat 0 = headN x := by simp
theorem pad_step {x : En} {k : Int} (h0 : 0 ≤ k) : headN x ++ List.replicate k.toNat 0 ++ [0] = headN x ++ List.replicate (k + 1).toNat 0 := by
  rw [show (k + 1).toNat = k.toNat + 1 by omega, List.replicate_succ', List.append_assoc]
/-- The entry of bytes, its Prev up to i. -/
def firstN (b : List UInt8) (i : Nat) : En := ⟨numL ((b.drop 1).take 4), B32.ofL ((b.drop 5).take i), u8 (atU b 0), Po.zero, 0, 0, 0⟩
theorem first_zero (b : List UInt8) : firstN b (0 : Int).toNat = { firstN b 0 with prev := B32.zero } := by
  unfold firstN
  simp only [En.mk.injEq, true_and, and_true]
  rw [← ofL_nil]; rfl
theorem first_step {b : List UInt8} {i : Int} (h0 : 0 ≤ i) (hi : i < 32) (hl : 63 ≤ b.length) : { firstN b i.toNat with prev := (firstN b i.toNat).prev.put i.toNat (atU b (5 + i).toNat) } = firstN b (i + 1).toNat := by
  have h1 := ofL_put (L := b.drop 5) h0 hi (by rw [List.length_drop]; omega)
  have h2 : atU (b.drop 5) i.toNat = atU b (5 + i).toNat := by
    unfold atU atE
    rw [List.getD_eq_getElem?_getD, List.getD_eq_getElem?_getD, List.getElem?_drop, show 5 + i.toNat = (5 + i).toNat by omega]
  rw [h2] at h1
  unfold firstN
  simp only [En.mk.injEq, true_and, and_true]
  exact h1
theorem len_lt (b : List UInt8) : 0 ≤ lenF b ∧ lenF b < 65536 := by
  have h1 := u8_lt (atU b 8)
  have h2 := u8_lt (atU b 9)
  unfold lenF; omega
theorem num_lt (b : List UInt8) : 0 ≤ numL b ∧ numL b < 4294967296 := by
  have h1 := u8_lt (atU b 0)
  have h2 := u8_lt (atU b 1)
  have h3 := u8_lt (atU b 2)
  have h4 := u8_lt (atU b 3)
  unfold numL; omega
end Go.Proofs.Ytoadlnnhlnhkjaa
