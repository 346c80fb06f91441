/- == of records. Made by walks/eqrec.py (closed facts). -/
import Derived.Test.YtjelhljgeinodaaUr
import Derived.Test.YtjelhljgeinodaaSc
import Derived.Test.YtjelhljgeinodaaFg
namespace Go.Proofs.Ytjelhljgeinodaa
open Go.RowKit
set_option maxRecDepth 100000
set_option linter.unusedSimpArgs false
set_option linter.unusedVariables false

theorem eqB {dd : Nat} (a b : B32) (w : World) : (Op.equalIn (dd + 2) 27 (.agg (List.toArray (l32 a))) (.agg (List.toArray (l32 b)))).run Try.prog w = .ok (decide (a = b)) w := eqA32 Try.underlying27 Try.underlying5 (by kernel_rfl) (by kernel_rfl) a b
theorem eqR27 (a b : B32) (w : World) : (Op.equalIn 10000 27 (.agg (List.toArray (l32 a))) (.agg (List.toArray (l32 b)))).run Try.prog w = .ok (decide (a = b)) w := eqB a b w
theorem ag27 : AggTy Try.prog 27 32 := ⟨_, Try.underlying27, rfl, by kernel_rfl⟩
theorem ag31 : AggTy Try.prog 31 2 := ⟨_, Try.underlying31, rfl, by kernel_rfl⟩
theorem eqSt {dd : Nat} (a b : St) (w : World) : (Op.equalIn (dd + 2) 31 (.agg (List.toArray [.int .i64 a.e, .int .i64 a.r])) (.agg (List.toArray [.int .i64 b.e, .int .i64 b.r]))).run Try.prog w = .ok (decide (a = b)) w := by
  have h : decide (a = b) = (decide (a.e = b.e) && (decide (a.r = b.r) && true)) := by rw [Bool.eq_iff_iff]; cases a; cases b; simp
  rw [h, run_equalIn_struct w (dd + 1) 31 _ _ (by kernel_rfl) (by kernel_rfl), show (Try.prog.fieldsOf 31).toList = _ from by unfold Program.fieldsOf; rw [Try.underlying31]]; exact (eqF_cons (by decide) (part_one ⟨_, Try.underlying3, rfl⟩ rfl) (part_one ⟨_, Try.underlying3, rfl⟩ rfl) (eq_int (dd := dd + 0) Try.underlying3) (eqF_cons (by decide) (part_one ⟨_, Try.underlying3, rfl⟩ rfl) (part_one ⟨_, Try.underlying3, rfl⟩ rfl) (eq_int (dd := dd + 0) Try.underlying3) eqF_nil))
theorem ag33 : AggTy Try.prog 33 3 := ⟨_, Try.underlying33, rfl, by kernel_rfl⟩
theorem eqPo {dd : Nat} (a b : Po) (w : World) : (Op.equalIn (dd + 3) 33 (.agg (List.toArray [.int .i64 a.n, .int .i64 a.t.e, .int .i64 a.t.r])) (.agg (List.toArray [.int .i64 b.n, .int .i64 b.t.e, .int .i64 b.t.r]))).run Try.prog w = .ok (decide (a = b)) w := by
  have h : decide (a = b) = (decide (a.n = b.n) && (decide (a.t = b.t) && true)) := by rw [Bool.eq_iff_iff]; cases a; cases b; simp
  rw [h, run_equalIn_struct w (dd + 2) 33 _ _ (by kernel_rfl) (by kernel_rfl), show (Try.prog.fieldsOf 33).toList = _ from by unfold Program.fieldsOf; rw [Try.underlying33]]; exact (eqF_cons (by decide) (part_one ⟨_, Try.underlying3, rfl⟩ rfl) (part_one ⟨_, Try.underlying3, rfl⟩ rfl) (eq_int (dd := dd + 1) Try.underlying3) (eqF_cons (by decide) (part_agg ag31 (cs := [.int .i64 a.t.e, .int .i64 a.t.r]) rfl) (part_agg ag31 (cs := [.int .i64 b.t.e, .int .i64 b.t.r]) rfl) (eqSt (dd := dd + 0) a.t b.t w) eqF_nil))
theorem zR35 : (Try.prog.info? 35).map (fun i => i.zero.map (·.cells)) = some (some (List.toArray (cEn En.zero))) := z35
theorem zR27 : (Try.prog.info? 27).map (fun i => i.zero.map (·.cells)) = some (some (List.toArray (l32 B32.zero))) := z27
theorem eqEn {dd : Nat} (a b : En) (w : World) : (Op.equalIn (dd + 4) 35 (.agg (List.toArray (cEn a))) (.agg (List.toArray (cEn b)))).run Try.prog w = .ok (decide (a = b)) w := by
  have h : decide (a = b) = (decide (a.seq = b.seq) && (decide (a.prev = b.prev) && (decide (a.kind = b.kind) && (decide (a.po = b.po) && (decide (a.edge = b.edge) && (decide (a.peer = b.peer) && (decide (a.n = b.n) && true))))))) := by rw [Bool.eq_iff_iff]; cases a; cases b; simp
  rw [h, run_equalIn_struct w (dd + 3) 35 _ _ (by kernel_rfl) (by kernel_rfl), show (Try.prog.fieldsOf 35).toList = _ from by unfold Program.fieldsOf; rw [Try.underlying35]]; exact (eqF_cons (by decide) (part_one ⟨_, Try.underlying3, rfl⟩ rfl) (part_one ⟨_, Try.underlying3, rfl⟩ rfl) (eq_int (dd := dd + 2) Try.underlying3) (eqF_cons (by decide) (part_agg ag27 (cs := (l32 a.prev)) rfl) (part_agg ag27 (cs := (l32 b.prev)) rfl) (eqB (dd := dd + 1) a.prev b.prev w) (eqF_cons (by decide) (part_one ⟨_, Try.underlying3, rfl⟩ rfl) (part_one ⟨_, Try.underlying3, rfl⟩ rfl) (eq_int (dd := dd + 2) Try.underlying3) (eqF_cons (by decide) (part_agg ag33 (cs := [.int .i64 a.po.n, .int .i64 a.po.t.e, .int .i64 a.po.t.r]) rfl) (part_agg ag33 (cs := [.int .i64 b.po.n, .int .i64 b.po.t.e, .int .i64 b.po.t.r]) rfl) (eqPo (dd := dd + 0) a.po b.po w) (eqF_cons (by decide) (part_one ⟨_, Try.underlying3, rfl⟩ rfl) (part_one ⟨_, Try.underlying3, rfl⟩ rfl) (eq_int (dd := dd + 2) Try.underlying3) (eqF_cons (by decide) (part_one ⟨_, Try.underlying3, rfl⟩ rfl) (part_one ⟨_, Try.underlying3, rfl⟩ rfl) (eq_int (dd := dd + 2) Try.underlying3) (eqF_cons (by decide) (part_one ⟨_, Try.underlying3, rfl⟩ rfl) (part_one ⟨_, Try.underlying3, rfl⟩ rfl) (eq_int (dd := dd + 2) Try.underlying3) eqF_nil)))))))
theorem eqR35 (a b : En) (w : World) : (Op.equalIn 10000 35 (.agg (List.toArray (cEn a))) (.agg (List.toArray (cEn b)))).run Try.prog w = .ok (decide (a = b)) w := eqEn a b w
end Go.Proofs.Ytjelhljgeinodaa
