/-
  What lodgeref.ops computes: which Ops there are, of a program or of a unit.
-/
import Derived.Test.YtoepcplbpochpaaDoorIns
namespace Go.Proofs.YtoepcplbpochpaaDoor
open Go.RowKit

theorem make17 (w : World) : (Instr.makeSlice 59 (.int .i64 17) (.int .i64 17)).run Tryd.prog w = .ok (.slice (some ⟨w.heap.size, 0, none⟩) 17 17)
    (w.alloc (.cells #[.bool false, .bool false, .bool false, .bool false, .bool false, .bool false, .bool false, .bool false, .bool false, .bool false, .bool false, .bool false, .bool false, .bool false, .bool false, .bool false, .bool false] 4)) := by kernel_rfl

set_option maxRecDepth 100000 in
set_option maxHeartbeats 4000000 in
theorem ops_any (p : Bool) (w : World) :
    Calls Tryd.prog 44 #[.bool p] w fun e w' => e = .returned (.slice (some ⟨w.heap.size, 0, none⟩) 17 17) ∧ w' = w.alloc (.cells (opsA p) 4) := by
  have hmk := make17
  cases p
  all_goals
    go_enter Tryd.func44, Tryd.ntmps44
    go_wp2
    refine wp_loop_rounds 18 ?_
    iterate 17 (rw [rounds_succ]; go_wp2)
    rw [rounds_succ]
    go_wp2
    go_ret
    exact ⟨rfl, rfl⟩
end Go.Proofs.YtoepcplbpochpaaDoor
