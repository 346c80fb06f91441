/- The reference of layer 5. Made by walks/ref05.py. -/
import Derived.Test.YtlgeodnbkndciaaPt
import Derived.Test.YtlgeodnbkndciaaRr
import Derived.Test.YtlgeodnbkndciaaMq
import Derived.Test.YtlgeodnbkndciaaRk
import Derived.Test.YtlgeodnbkndciaaFg
namespace Go.Proofs.Ytlgeodnbkndciaa
open Go.RowKit
set_option maxRecDepth 100000
set_option linter.unusedSimpArgs false
set_option linter.unusedVariables false

set_option maxHeartbeats 1000000 in
theorem pright_any (p : St) (w : World) :
    Calls Try.prog 50 #[.agg #[.int .i64 p.e, .int .i64 p.r]] w (fun e w' => e = .returned ((.bool p.rightB)) ∧ Below w.heap.size w w') := by
  refine enterF Try.func50 rfl 9 Try.ntmps50 [.agg #[.int .i64 p.e, .int .i64 p.r]] rfl [(0, .agg #[.int .i64 p.e, .int .i64 p.r])] rfl ?_; intro φ F; have M := Mm.start [] w; refine wp_seq ?_; refine wp_region_lit ?_; refine sq_box F M (wt0 rfl) rfl (F.ev rfl) (cs := #[.int .i64 p.e, .int .i64 p.r]) rfl rfl rfl ?_; clear F M; intro φ ω g1 F M; revert φ; refine asG ?_; intro φ F; refine nx ?_; refine wp_seq ?_; refine wp_region_lit ?_; revert φ; refine faG fo44_0 ?_; refine lcG M one3 (r := 0) rfl ?_; refine faG fo44_1 ?_; refine lcG M one3 (r := 0) rfl ?_; refine puG (fun _ F => bu24_0_1 rfl (F.ev rfl) (F.ev rfl)) ?_; intro φ F; refine sq_call F M (wt0 rfl) rfl en30 (evc (F.ev rfl) evn) (rright_any p _) rfl rfl ?_; clear F M; intro φ ω F M; revert φ; refine asG ?_; intro φ F; refine nx ?_; refine wp_ret ?_; refine rt_tmp F rfl rfl ?_; exact ⟨rfl, M.bel⟩

end Go.Proofs.Ytlgeodnbkndciaa
