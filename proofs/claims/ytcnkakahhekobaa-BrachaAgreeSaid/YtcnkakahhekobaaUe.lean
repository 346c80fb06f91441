/- == of records. Made by walks/eqrec.py (closed facts). -/
import Derived.Test.YtcnkakahhekobaaUr
import Derived.Test.YtcnkakahhekobaaSc
import Derived.Test.YtcnkakahhekobaaFg
namespace Go.Proofs.Ytcnkakahhekobaa
open Go.RowKit
set_option maxRecDepth 100000
set_option linter.unusedSimpArgs false
set_option linter.unusedVariables false

theorem eqB {dd : Nat} (a b : B32) (w : World) : (Op.equalIn (dd + 2) 39 (.agg (List.toArray (l32 a))) (.agg (List.toArray (l32 b)))).run Try.prog w = .ok (decide (a = b)) w := eqA32 Try.underlying39 Try.underlying5 (by kernel_rfl) (by kernel_rfl) a b
theorem eqR39 (a b : B32) (w : World) : (Op.equalIn 10000 39 (.agg (List.toArray (l32 a))) (.agg (List.toArray (l32 b)))).run Try.prog w = .ok (decide (a = b)) w := eqB a b w
theorem ag39 : AggTy Try.prog 39 32 := ⟨_, Try.underlying39, rfl, by kernel_rfl⟩
theorem eqFm {dd : Nat} (a b : Fm) (w : World) : (Op.equalIn (dd + 4) 41 (.agg (List.toArray (cFm a))) (.agg (List.toArray (cFm b)))).run Try.prog w = .ok (decide (a = b)) w := by
  have h : decide (a = b) = (decide (a.kind = b.kind) && (decide (a.frm = b.frm) && (decide (a.dst = b.dst) && (decide (a.org = b.org) && (decide (a.seq = b.seq) && (decide (a.text = b.text) && (decide (a.tag = b.tag) && true))))))) := by rw [Bool.eq_iff_iff]; cases a; cases b; simp
  rw [h, run_equalIn_struct w (dd + 3) 41 _ _ (by kernel_rfl) (by kernel_rfl), show (Try.prog.fieldsOf 41).toList = _ from by unfold Program.fieldsOf; rw [Try.underlying41]]; exact (eqF_cons (by decide) (part_one ⟨_, Try.underlying3, rfl⟩ rfl) (part_one ⟨_, Try.underlying3, rfl⟩ rfl) (eq_int (dd := dd + 2) Try.underlying3) (eqF_cons (by decide) (part_one ⟨_, Try.underlying3, rfl⟩ rfl) (part_one ⟨_, Try.underlying3, rfl⟩ rfl) (eq_int (dd := dd + 2) Try.underlying3) (eqF_cons (by decide) (part_one ⟨_, Try.underlying3, rfl⟩ rfl) (part_one ⟨_, Try.underlying3, rfl⟩ rfl) (eq_int (dd := dd + 2) Try.underlying3) (eqF_cons (by decide) (part_one ⟨_, Try.underlying3, rfl⟩ rfl) (part_one ⟨_, Try.underlying3, rfl⟩ rfl) (eq_int (dd := dd + 2) Try.underlying3) (eqF_cons (by decide) (part_one ⟨_, Try.underlying3, rfl⟩ rfl) (part_one ⟨_, Try.underlying3, rfl⟩ rfl) (eq_int (dd := dd + 2) Try.underlying3) (eqF_cons (by decide) (part_one ⟨_, Try.underlying9, rfl⟩ rfl) (part_one ⟨_, Try.underlying9, rfl⟩ rfl) (eq_str (dd := dd + 2) Try.underlying9) (eqF_cons (by decide) (part_agg ag39 (cs := (l32 a.tag)) rfl) (part_agg ag39 (cs := (l32 b.tag)) rfl) (eqB (dd := dd + 1) a.tag b.tag w) eqF_nil)))))))
theorem eqR41 (a b : Fm) (w : World) : (Op.equalIn 10000 41 (.agg (List.toArray (cFm a))) (.agg (List.toArray (cFm b)))).run Try.prog w = .ok (decide (a = b)) w := eqFm a b w
end Go.Proofs.Ytcnkakahhekobaa
