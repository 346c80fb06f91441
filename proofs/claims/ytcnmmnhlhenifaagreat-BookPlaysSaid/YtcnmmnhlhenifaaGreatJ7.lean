/- Put together: Rc, Pw, Hr. -/
import Derived.Test.YtcnmmnhlhenifaaGreatRg
import Derived.Test.YtcnmmnhlhenifaaGreatJ3
import Derived.Test.YtcnmmnhlhenifaaGreatJ5
import Derived.Test.YtcnmmnhlhenifaaGreatAn
namespace Go.Proofs.YtcnmmnhlhenifaaGreat
open Go.RowKit
set_option maxRecDepth 100000
set_option linter.unusedSimpArgs false
set_option linter.unusedVariables false
end Go.Proofs.YtcnmmnhlhenifaaGreat
namespace Go.Proofs.YtcnmmnhlhenifaaGreat
open Go.RowKit
set_option maxRecDepth 100000
set_option linter.unusedSimpArgs false
set_option linter.unusedVariables false
set_option maxHeartbeats 1000000 in
theorem path_right_any (p : St) (w : World) :
    Calls Tryz.prog 59 #[.agg #[.int .i64 p.e, .int .i64 p.r]] w (fun e w' => e = .returned ((.bool p.rightB)) ∧ Below w.heap.size w w') := by
  refine enterF Tryz.func59 rfl 5 Tryz.ntmps59 [.agg #[.int .i64 p.e, .int .i64 p.r]] rfl [(0, .agg #[.int .i64 p.e, .int .i64 p.r])] rfl ?_; intro φ F; have M := Mm.start [] w; refine wp_seq ?_; refine wp_region_lit ?_; refine sq_box F M (wt0 rfl) rfl (F.ev rfl) (cs := #[.int .i64 p.e, .int .i64 p.r]) rfl rfl rfl ?_; clear F M; intro φ ω g1 F M; revert φ; refine asG ?_; refine nxG ?_; refine srG ?_; refine rdG (fun _ F => ld_agg rfl (F.ev rfl) agg77 (M.rd (i := 0) rfl) rfl) ?_; intro φ F; refine sq_call F M (wt0 rfl) rfl en79 (evc (F.ev rfl) evn) (right_any p _) rfl rfl ?_; clear F M; intro φ ω F M; revert φ; refine asG ?_; intro φ F; refine nx ?_; refine wp_ret ?_; refine rt_tmp F rfl rfl ?_; exact ⟨rfl, M.bel⟩
end Go.Proofs.YtcnmmnhlhenifaaGreat
namespace Go.Proofs.YtcnmmnhlhenifaaGreat
open Go.RowKit
set_option maxRecDepth 100000
set_option linter.unusedSimpArgs false
set_option linter.unusedVariables false
end Go.Proofs.YtcnmmnhlhenifaaGreat
