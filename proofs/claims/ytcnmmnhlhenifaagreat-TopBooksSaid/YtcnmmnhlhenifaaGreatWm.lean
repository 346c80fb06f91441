/- Frames and entries as bytes: mathematics. Any seat. -/
import Derived.Test.YtcnmmnhlhenifaaGreatJ3
namespace Go.Proofs.YtcnmmnhlhenifaaGreat
open Go.RowKit
set_option maxRecDepth 100000
set_option linter.unusedSimpArgs false
set_option linter.unusedVariables false
def bigL (n : Int) : List UInt8 := [byteU (n / 16777216), byteU (n / 65536), byteU (n / 256), byteU n]
def numL (b : List UInt8) : Int := u8 (atU b 0) * 16777216 + u8 (atU b 1) * 65536 + u8 (atU b 2) * 256 + u8 (atU b 3)
def rightF (f : Fm) : Bool := decide ((1 ≤ f.kind ∧ f.kind ≤ 4) ∧ (0 ≤ f.frm ∧ f.frm ≤ 6) ∧ (0 ≤ f.dst ∧ f.dst ≤ 6) ∧ (0 ≤ f.org ∧ f.org ≤ 6) ∧ (0 ≤ f.seq ∧ f.seq ≤ 1000000) ∧ f.text.length ≤ 400)
def saidL (f : Fm) : List UInt8 := [byteU f.kind, byteU f.frm, byteU f.dst, byteU f.org] ++ bigL f.seq ++ [byteU (((f.text.length : Nat) : Int) / 256), byteU ((f.text.length : Nat) : Int)] ++ f.text
def frameL (f : Fm) : List UInt8 := if rightF f = true then saidL f ++ f.tag.l else []
def frameE (f : Fm) : Int := if rightF f = true then 0 else 2
def lenF (b : List UInt8) : Int := u8 (atU b 8) * 256 + u8 (atU b 9)
def takeI (b : List UInt8) (i : Nat) : Fm := ⟨u8 (atU b 0), u8 (atU b 1), u8 (atU b 2), u8 (atU b 3), numL ((b.drop 4).take 4), (b.drop 10).take (lenF b).toNat, B32.ofL ((b.drop (10 + (lenF b).toNat)).take i)⟩
def takeF (b : List UInt8) : Fm := takeI b 32
def readF (b : List UInt8) : Fm × Int :=
  if b.length < 10 then (Fm.zero, 3)
  else if (b.length : Int) < 10 + lenF b + 32 then (Fm.zero, 3)
  else if frameE (takeF b) = 0 ∧ frameL (takeF b) = b then (takeF b, 0) else (Fm.zero, 2)
def rightN (x : En) : Bool := decide ((1 ≤ x.kind ∧ x.kind ≤ 5) ∧ (0 ≤ x.seq ∧ x.seq ≤ 1000000) ∧ (0 ≤ x.po.n ∧ x.po.n ≤ 7) ∧ x.po.t.rightB = true ∧ (0 ≤ x.edge ∧ x.edge ≤ 15) ∧ (0 ≤ x.peer ∧ x.peer ≤ 6) ∧ (1 ≤ x.n ∧ x.n ≤ 1000000))
def headN (x : En) : List UInt8 := [byteU x.kind] ++ bigL x.seq ++ x.prev.l ++ [byteU x.po.n] ++ bigL x.po.t.e ++ bigL x.po.t.r ++ [byteU x.edge, byteU x.peer] ++ bigL x.n
def bytesN (x : En) : List UInt8 := headN x ++ List.replicate 11 0
def entryL (x : En) : List UInt8 := if rightN x = true then bytesN x else []
def entryE (x : En) : Int := if rightN x = true then 0 else 2
def takeN (b : List UInt8) : En := ⟨numL ((b.drop 1).take 4), B32.ofL ((b.drop 5).take 32), u8 (atU b 0), ⟨u8 (atU b 37), ⟨numL ((b.drop 38).take 4), numL ((b.drop 42).take 4)⟩⟩, u8 (atU b 46), u8 (atU b 47), numL ((b.drop 48).take 4)⟩
def readN (b : List UInt8) : En × Int :=
  if b.length < 63 then (En.zero, 3)
  else if entryE (takeN b) = 0 ∧ entryL (takeN b) = b then (takeN b, 0) else (En.zero, 2)
theorem big_len (n : Int) : (bigL n).length = 4 := rfl
theorem rightN_iff {x : En} : rightN x = true ↔ (1 ≤ x.kind ∧ x.kind ≤ 5) ∧ (0 ≤ x.seq ∧ x.seq ≤ 1000000) ∧ (0 ≤ x.po.n ∧ x.po.n ≤ 7) ∧ x.po.t.rightB = true ∧ (0 ≤ x.edge ∧ x.edge ≤ 15) ∧ (0 ≤ x.peer ∧ x.peer ≤ 6) ∧ (1 ≤ x.n ∧ x.n ≤ 1000000) := by unfold rightN; rw [decide_eq_true_iff]
theorem rightN_no {x : En} (h : ¬ ((1 ≤ x.kind ∧ x.kind ≤ 5) ∧ (0 ≤ x.seq ∧ x.seq ≤ 1000000) ∧ (0 ≤ x.po.n ∧ x.po.n ≤ 7) ∧ x.po.t.rightB = true ∧ (0 ≤ x.edge ∧ x.edge ≤ 15) ∧ (0 ≤ x.peer ∧ x.peer ≤ 6) ∧ (1 ≤ x.n ∧ x.n ≤ 1000000))) : rightN x = false := by unfold rightN; exact decide_eq_false h
theorem take_zero (b : List UInt8) : takeI b (0 : Int).toNat = { takeI b 0 with tag := B32.zero } := by
  unfold takeI
  simp only [Fm.mk.injEq, true_and]
  rw [← ofL_nil]; rfl
theorem entry_ok {x : En} (h : rightN x = true) : entryL x = bytesN x ∧ entryE x = 0 := ⟨if_pos h, if_pos h⟩
theorem entry_no {x : En} (h : rightN x = false) : entryL x = [] ∧ entryE x = 2 := ⟨if_neg (by rw [h]; simp), if_neg (by rw [h]; simp)⟩
theorem head_len (x : En) : (headN x).length = 52 := by simp [headN, bigL, x.prev.h]
theorem bytes_len (x : En) : (bytesN x).length = 63 := by unfold bytesN; rw [List.length_append, head_len, List.length_replicate]
def firstN (b : List UInt8) (i : Nat) : En := ⟨numL ((b.drop 1).take 4), B32.ofL ((b.drop 5).take i), u8 (atU b 0), Po.zero, 0, 0, 0⟩
end Go.Proofs.YtcnmmnhlhenifaaGreat
