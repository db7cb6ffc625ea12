/-
  What lodgeref.ops computes: which Ops there are, of a program or of a unit.
-/
import Derived.Test.YtnpbajhlhkmljaaDoorGIns

namespace Go.Proofs.YtnpbajhlhkmljaaDoor
open Go.RowKit

theorem make17 (w : World) : (Instr.makeSlice 54 (.int .i64 17) (.int .i64 17)).run Tryd.prog w = .ok (.slice (some ⟨w.heap.size, 0, none⟩) 17 17)
    (w.alloc (.cells #[.bool false, .bool false, .bool false, .bool false, .bool false, .bool false, .bool false, .bool false, .bool false, .bool false, .bool false, .bool false, .bool false, .bool false, .bool false, .bool false, .bool false] 4)) := by kernel_rfl

set_option maxRecDepth 100000 in
set_option maxHeartbeats 4000000 in
theorem ops_any (p : Bool) (w : World) :
    Calls Tryd.prog 23 #[.bool p] w fun e w' => e = .returned (.slice (some ⟨w.heap.size, 0, none⟩) 17 17) ∧ w' = w.alloc (.cells (opsA p) 4) := by
  have hmk := make17
  cases p
  all_goals
    go_enter Tryd.func23, Tryd.ntmps23
    go_wp2
    refine wp_loop_rounds 18 ?_
    iterate 17 (rw [rounds_succ]; go_wp2)
    rw [rounds_succ]
    go_wp2
    go_ret
    exact ⟨rfl, rfl⟩
end Go.Proofs.YtnpbajhlhkmljaaDoor

/-
  What lodgeref.Form and lodgeref.ops compute.
-/
namespace Go.Proofs.YtnpbajhlhkmljaaDoor
open Go.RowKit

set_option maxRecDepth 100000 in
set_option maxHeartbeats 4000000 in
theorem form_any (k : Nat) (hk : k < 17) (w : World) :
    Calls Tryd.prog 43 #[.int .i64 (k : Int)] w fun e w' => e = .returned (.string (formS k)) ∧ Below w.heap.size w w' := by
  rcases (show k = 0 ∨ k = 1 ∨ k = 2 ∨ k = 3 ∨ k = 4 ∨ k = 5 ∨ k = 6 ∨ k = 7 ∨ k = 8 ∨ k = 9 ∨ k = 10 ∨ k = 11 ∨ k = 12 ∨ k = 13 ∨ k = 14 ∨ k = 15 ∨ k = 16 by omega) with rfl | rfl | rfl | rfl | rfl | rfl | rfl | rfl | rfl | rfl | rfl | rfl | rfl | rfl | rfl | rfl | rfl
  all_goals
    go_enter Tryd.func43, Tryd.ntmps43
    go_wp2
    go_ret
    exact ⟨rfl, (Below.refl _ _).alloc (Nat.le_refl _) _⟩
end Go.Proofs.YtnpbajhlhkmljaaDoor
