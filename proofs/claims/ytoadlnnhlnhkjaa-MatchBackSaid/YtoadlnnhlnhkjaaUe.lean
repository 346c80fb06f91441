/- == of records. Made by walks/eqrec.py (closed facts). -/
import Derived.Test.YtoadlnnhlnhkjaaUr
import Derived.Test.YtoadlnnhlnhkjaaSc
import Derived.Test.YtoadlnnhlnhkjaaFg
namespace Go.Proofs.Ytoadlnnhlnhkjaa
open Go.RowKit
set_option maxRecDepth 100000
set_option linter.unusedSimpArgs false
set_option linter.unusedVariables false

theorem eqB {dd : Nat} (a b : B32) (w : World) : (Op.equalIn (dd + 2) 26 (.agg (List.toArray (l32 a))) (.agg (List.toArray (l32 b)))).run Try.prog w = .ok (decide (a = b)) w := eqA32 Try.underlying26 Try.underlying5 (by kernel_rfl) (by kernel_rfl) a b
theorem eqR26 (a b : B32) (w : World) : (Op.equalIn 10000 26 (.agg (List.toArray (l32 a))) (.agg (List.toArray (l32 b)))).run Try.prog w = .ok (decide (a = b)) w := eqB a b w
theorem ag26 : AggTy Try.prog 26 32 := ⟨_, Try.underlying26, rfl, by kernel_rfl⟩
theorem ag28 : AggTy Try.prog 28 2 := ⟨_, Try.underlying28, rfl, by kernel_rfl⟩
theorem eqSt {dd : Nat} (a b : St) (w : World) : (Op.equalIn (dd + 2) 28 (.agg (List.toArray [.int .i64 a.e, .int .i64 a.r])) (.agg (List.toArray [.int .i64 b.e, .int .i64 b.r]))).run Try.prog w = .ok (decide (a = b)) w := by
  have h : decide (a = b) = (decide (a.e = b.e) && (decide (a.r = b.r) && true)) := by rw [Bool.eq_iff_iff]; cases a; cases b; simp
  rw [h, run_equalIn_struct w (dd + 1) 28 _ _ (by kernel_rfl) (by kernel_rfl), show (Try.prog.fieldsOf 28).toList = _ from by unfold Program.fieldsOf; rw [Try.underlying28]]; exact (eqF_cons (by decide) (part_one ⟨_, Try.underlying3, rfl⟩ rfl) (part_one ⟨_, Try.underlying3, rfl⟩ rfl) (eq_int (dd := dd + 0) Try.underlying3) (eqF_cons (by decide) (part_one ⟨_, Try.underlying3, rfl⟩ rfl) (part_one ⟨_, Try.underlying3, rfl⟩ rfl) (eq_int (dd := dd + 0) Try.underlying3) eqF_nil))
theorem ag30 : AggTy Try.prog 30 3 := ⟨_, Try.underlying30, rfl, by kernel_rfl⟩
theorem eqPo {dd : Nat} (a b : Po) (w : World) : (Op.equalIn (dd + 3) 30 (.agg (List.toArray [.int .i64 a.n, .int .i64 a.t.e, .int .i64 a.t.r])) (.agg (List.toArray [.int .i64 b.n, .int .i64 b.t.e, .int .i64 b.t.r]))).run Try.prog w = .ok (decide (a = b)) w := by
  have h : decide (a = b) = (decide (a.n = b.n) && (decide (a.t = b.t) && true)) := by rw [Bool.eq_iff_iff]; cases a; cases b; simp
  rw [h, run_equalIn_struct w (dd + 2) 30 _ _ (by kernel_rfl) (by kernel_rfl), show (Try.prog.fieldsOf 30).toList = _ from by unfold Program.fieldsOf; rw [Try.underlying30]]; exact (eqF_cons (by decide) (part_one ⟨_, Try.underlying3, rfl⟩ rfl) (part_one ⟨_, Try.underlying3, rfl⟩ rfl) (eq_int (dd := dd + 1) Try.underlying3) (eqF_cons (by decide) (part_agg ag28 (cs := [.int .i64 a.t.e, .int .i64 a.t.r]) rfl) (part_agg ag28 (cs := [.int .i64 b.t.e, .int .i64 b.t.r]) rfl) (eqSt (dd := dd + 0) a.t b.t w) eqF_nil))
theorem eqCts {dd : Nat} (a b : (St × Int)) (w : World) : (Op.equalIn (dd + 3) 44 (.agg (List.toArray [.int .i64 a.1.e, .int .i64 a.1.r, .int .i64 a.2])) (.agg (List.toArray [.int .i64 b.1.e, .int .i64 b.1.r, .int .i64 b.2]))).run Try.prog w = .ok (decide (a = b)) w := by
  have h : decide (a = b) = (decide (a.1 = b.1) && (decide (a.2 = b.2) && true)) := by rw [Bool.eq_iff_iff]; cases a; cases b; simp
  rw [h, run_equalIn_struct w (dd + 2) 44 _ _ (by kernel_rfl) (by kernel_rfl), show (Try.prog.fieldsOf 44).toList = _ from by unfold Program.fieldsOf; rw [Try.underlying44]]; exact (eqF_cons (by decide) (part_agg ag28 (cs := [.int .i64 a.1.e, .int .i64 a.1.r]) rfl) (part_agg ag28 (cs := [.int .i64 b.1.e, .int .i64 b.1.r]) rfl) (eqSt (dd := dd + 0) a.1 b.1 w) (eqF_cons (by decide) (part_one ⟨_, Try.underlying3, rfl⟩ rfl) (part_one ⟨_, Try.underlying3, rfl⟩ rfl) (eq_int (dd := dd + 1) Try.underlying3) eqF_nil))
theorem zR32 : (Try.prog.info? 32).map (fun i => i.zero.map (·.cells)) = some (some (List.toArray (cEn En.zero))) := z32
theorem zR34 : (Try.prog.info? 34).map (fun i => i.zero.map (·.cells)) = some (some (List.toArray (cOm ⟨0, 0, En.zero⟩))) := z34
theorem eqEn {dd : Nat} (a b : En) (w : World) : (Op.equalIn (dd + 4) 32 (.agg (List.toArray (cEn a))) (.agg (List.toArray (cEn b)))).run Try.prog w = .ok (decide (a = b)) w := by
  have h : decide (a = b) = (decide (a.seq = b.seq) && (decide (a.prev = b.prev) && (decide (a.kind = b.kind) && (decide (a.po = b.po) && (decide (a.edge = b.edge) && (decide (a.peer = b.peer) && (decide (a.n = b.n) && true))))))) := by rw [Bool.eq_iff_iff]; cases a; cases b; simp
  rw [h, run_equalIn_struct w (dd + 3) 32 _ _ (by kernel_rfl) (by kernel_rfl), show (Try.prog.fieldsOf 32).toList = _ from by unfold Program.fieldsOf; rw [Try.underlying32]]; exact (eqF_cons (by decide) (part_one ⟨_, Try.underlying3, rfl⟩ rfl) (part_one ⟨_, Try.underlying3, rfl⟩ rfl) (eq_int (dd := dd + 2) Try.underlying3) (eqF_cons (by decide) (part_agg ag26 (cs := (l32 a.prev)) rfl) (part_agg ag26 (cs := (l32 b.prev)) rfl) (eqB (dd := dd + 1) a.prev b.prev w) (eqF_cons (by decide) (part_one ⟨_, Try.underlying3, rfl⟩ rfl) (part_one ⟨_, Try.underlying3, rfl⟩ rfl) (eq_int (dd := dd + 2) Try.underlying3) (eqF_cons (by decide) (part_agg ag30 (cs := [.int .i64 a.po.n, .int .i64 a.po.t.e, .int .i64 a.po.t.r]) rfl) (part_agg ag30 (cs := [.int .i64 b.po.n, .int .i64 b.po.t.e, .int .i64 b.po.t.r]) rfl) (eqPo (dd := dd + 0) a.po b.po w) (eqF_cons (by decide) (part_one ⟨_, Try.underlying3, rfl⟩ rfl) (part_one ⟨_, Try.underlying3, rfl⟩ rfl) (eq_int (dd := dd + 2) Try.underlying3) (eqF_cons (by decide) (part_one ⟨_, Try.underlying3, rfl⟩ rfl) (part_one ⟨_, Try.underlying3, rfl⟩ rfl) (eq_int (dd := dd + 2) Try.underlying3) (eqF_cons (by decide) (part_one ⟨_, Try.underlying3, rfl⟩ rfl) (part_one ⟨_, Try.underlying3, rfl⟩ rfl) (eq_int (dd := dd + 2) Try.underlying3) eqF_nil)))))))
theorem eqR32 (a b : En) (w : World) : (Op.equalIn 10000 32 (.agg (List.toArray (cEn a))) (.agg (List.toArray (cEn b)))).run Try.prog w = .ok (decide (a = b)) w := eqEn a b w
end Go.Proofs.Ytoadlnnhlnhkjaa
