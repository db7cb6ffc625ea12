/-
  What leb.getRange answers: five numbers, one behind the other, or the first fault.
-/
import Derived.Test.YtoepcplbpochpaaDoorGet
import Derived.Test.YtoepcplbpochpaaDoorWritten
namespace Go.Proofs.YtoepcplbpochpaaDoor
open Go.RowKit

/-- Get of s at the place q gives the number x and the place p; or it is refused. -/
def Gives (s : ByteArray) (q x p : Int) : Prop := ∀ w, Calls Tryd.prog 88 #[.string s, .int .i64 q] w fun e w' => e = .returned (.tuple #[.int .i64 x, .int .i64 p, .int .i64 0]) ∧ w' = w
def Fails (s : ByteArray) (q : Int) : Prop := ∀ w, Calls Tryd.prog 88 #[.string s, .int .i64 q] w fun e w' => e = .returned (.tuple #[.int .i64 0, .int .i64 0, .int .i64 14]) ∧ w' = w

set_option maxRecDepth 100000 in
set_option maxHeartbeats 1000000 in
theorem getRange_bad0 (s : ByteArray) (q0 : Int) (w : World) (b : Fails s q0) :
    Calls Tryd.prog 89 #[.string s, .int .i64 q0] w fun e w' => e = .returned (.tuple #[.agg #[.int .i64 0, .int .i64 0, .int .i64 0, .int .i64 0, .int .i64 0], .int .i64 0, .int .i64 14]) ∧ Below w.heap.size w w' := by
  go_enter Tryd.func89, Tryd.ntmps89
  go_wp2
  refine wp_loop_rounds 6 ?_; rw [rounds_succ]
  go_wp2_with fail
  refine (b _).mono ?_
  rintro e w' ⟨rfl, hw⟩
  subst hw
  go_wp2
  exact bodyPost_ret (v := .tuple #[.agg #[.int .i64 0, .int .i64 0, .int .i64 0, .int .i64 0, .int .i64 0], .int .i64 0, .int .i64 14]) (by simp [results, Tryd.results89, go_sem]) rfl ⟨rfl, (((Below.refl _ _).alloc (Nat.le_refl _) _).alloc (by simp) _)⟩

set_option maxRecDepth 100000 in
set_option maxHeartbeats 1000000 in
theorem getRange_bad1 (s : ByteArray) (q0 q1 x0 : Int) (w : World) (g0 : Gives s q0 x0 q1) (b : Fails s q1) :
    Calls Tryd.prog 89 #[.string s, .int .i64 q0] w fun e w' => e = .returned (.tuple #[.agg #[.int .i64 0, .int .i64 0, .int .i64 0, .int .i64 0, .int .i64 0], .int .i64 0, .int .i64 14]) ∧ Below w.heap.size w w' := by
  go_enter Tryd.func89, Tryd.ntmps89
  go_wp2
  refine wp_loop_rounds 6 ?_; rw [rounds_succ]
  go_wp2_with fail
  refine (g0 _).mono ?_
  rintro e w' ⟨rfl, hw⟩
  subst hw
  go_wp2_with fail
  rw [rounds_succ]
  go_wp2_with fail
  refine (b _).mono ?_
  rintro e w' ⟨rfl, hw⟩
  subst hw
  go_wp2
  exact bodyPost_ret (v := .tuple #[.agg #[.int .i64 0, .int .i64 0, .int .i64 0, .int .i64 0, .int .i64 0], .int .i64 0, .int .i64 14]) (by simp [results, Tryd.results89, go_sem]) rfl ⟨rfl, (((Below.refl _ _).alloc (Nat.le_refl _) _).alloc (by simp) _)⟩

set_option maxRecDepth 100000 in
set_option maxHeartbeats 1000000 in
theorem getRange_bad2 (s : ByteArray) (q0 q1 q2 x0 x1 : Int) (w : World) (g0 : Gives s q0 x0 q1) (g1 : Gives s q1 x1 q2) (b : Fails s q2) :
    Calls Tryd.prog 89 #[.string s, .int .i64 q0] w fun e w' => e = .returned (.tuple #[.agg #[.int .i64 0, .int .i64 0, .int .i64 0, .int .i64 0, .int .i64 0], .int .i64 0, .int .i64 14]) ∧ Below w.heap.size w w' := by
  go_enter Tryd.func89, Tryd.ntmps89
  go_wp2
  refine wp_loop_rounds 6 ?_; rw [rounds_succ]
  go_wp2_with fail
  refine (g0 _).mono ?_
  rintro e w' ⟨rfl, hw⟩
  subst hw
  go_wp2_with fail
  rw [rounds_succ]
  go_wp2_with fail
  refine (g1 _).mono ?_
  rintro e w' ⟨rfl, hw⟩
  subst hw
  go_wp2_with fail
  rw [rounds_succ]
  go_wp2_with fail
  refine (b _).mono ?_
  rintro e w' ⟨rfl, hw⟩
  subst hw
  go_wp2
  exact bodyPost_ret (v := .tuple #[.agg #[.int .i64 0, .int .i64 0, .int .i64 0, .int .i64 0, .int .i64 0], .int .i64 0, .int .i64 14]) (by simp [results, Tryd.results89, go_sem]) rfl ⟨rfl, (((Below.refl _ _).alloc (Nat.le_refl _) _).alloc (by simp) _)⟩

set_option maxRecDepth 100000 in
set_option maxHeartbeats 1000000 in
theorem getRange_bad3 (s : ByteArray) (q0 q1 q2 q3 x0 x1 x2 : Int) (w : World) (g0 : Gives s q0 x0 q1) (g1 : Gives s q1 x1 q2) (g2 : Gives s q2 x2 q3) (b : Fails s q3) :
    Calls Tryd.prog 89 #[.string s, .int .i64 q0] w fun e w' => e = .returned (.tuple #[.agg #[.int .i64 0, .int .i64 0, .int .i64 0, .int .i64 0, .int .i64 0], .int .i64 0, .int .i64 14]) ∧ Below w.heap.size w w' := by
  go_enter Tryd.func89, Tryd.ntmps89
  go_wp2
  refine wp_loop_rounds 6 ?_; rw [rounds_succ]
  go_wp2_with fail
  refine (g0 _).mono ?_
  rintro e w' ⟨rfl, hw⟩
  subst hw
  go_wp2_with fail
  rw [rounds_succ]
  go_wp2_with fail
  refine (g1 _).mono ?_
  rintro e w' ⟨rfl, hw⟩
  subst hw
  go_wp2_with fail
  rw [rounds_succ]
  go_wp2_with fail
  refine (g2 _).mono ?_
  rintro e w' ⟨rfl, hw⟩
  subst hw
  go_wp2_with fail
  rw [rounds_succ]
  go_wp2_with fail
  refine (b _).mono ?_
  rintro e w' ⟨rfl, hw⟩
  subst hw
  go_wp2
  exact bodyPost_ret (v := .tuple #[.agg #[.int .i64 0, .int .i64 0, .int .i64 0, .int .i64 0, .int .i64 0], .int .i64 0, .int .i64 14]) (by simp [results, Tryd.results89, go_sem]) rfl ⟨rfl, (((Below.refl _ _).alloc (Nat.le_refl _) _).alloc (by simp) _)⟩

set_option maxRecDepth 100000 in
set_option maxHeartbeats 1000000 in
theorem getRange_bad4 (s : ByteArray) (q0 q1 q2 q3 q4 x0 x1 x2 x3 : Int) (w : World) (g0 : Gives s q0 x0 q1) (g1 : Gives s q1 x1 q2) (g2 : Gives s q2 x2 q3) (g3 : Gives s q3 x3 q4) (b : Fails s q4) :
    Calls Tryd.prog 89 #[.string s, .int .i64 q0] w fun e w' => e = .returned (.tuple #[.agg #[.int .i64 0, .int .i64 0, .int .i64 0, .int .i64 0, .int .i64 0], .int .i64 0, .int .i64 14]) ∧ Below w.heap.size w w' := by
  go_enter Tryd.func89, Tryd.ntmps89
  go_wp2
  refine wp_loop_rounds 6 ?_; rw [rounds_succ]
  go_wp2_with fail
  refine (g0 _).mono ?_
  rintro e w' ⟨rfl, hw⟩
  subst hw
  go_wp2_with fail
  rw [rounds_succ]
  go_wp2_with fail
  refine (g1 _).mono ?_
  rintro e w' ⟨rfl, hw⟩
  subst hw
  go_wp2_with fail
  rw [rounds_succ]
  go_wp2_with fail
  refine (g2 _).mono ?_
  rintro e w' ⟨rfl, hw⟩
  subst hw
  go_wp2_with fail
  rw [rounds_succ]
  go_wp2_with fail
  refine (g3 _).mono ?_
  rintro e w' ⟨rfl, hw⟩
  subst hw
  go_wp2_with fail
  rw [rounds_succ]
  go_wp2_with fail
  refine (b _).mono ?_
  rintro e w' ⟨rfl, hw⟩
  subst hw
  go_wp2
  exact bodyPost_ret (v := .tuple #[.agg #[.int .i64 0, .int .i64 0, .int .i64 0, .int .i64 0, .int .i64 0], .int .i64 0, .int .i64 14]) (by simp [results, Tryd.results89, go_sem]) rfl ⟨rfl, (((Below.refl _ _).alloc (Nat.le_refl _) _).alloc (by simp) _)⟩

set_option maxRecDepth 100000 in
set_option maxHeartbeats 1000000 in
theorem getRange_ok (s : ByteArray) (q0 q1 q2 q3 q4 q5 x0 x1 x2 x3 x4 : Int) (w : World) (g0 : Gives s q0 x0 q1) (g1 : Gives s q1 x1 q2) (g2 : Gives s q2 x2 q3) (g3 : Gives s q3 x3 q4) (g4 : Gives s q4 x4 q5) (h1 : 0 ≤ x1 ∧ x1 ≤ 2097151) (h2 : 0 ≤ x2 ∧ x2 ≤ 2097151) :
    Calls Tryd.prog 89 #[.string s, .int .i64 q0] w fun e w' => e = .returned (.tuple #[.agg #[.int .i64 x0, .int .i64 x1, .int .i64 (x1 + x2), .int .i64 x3, .int .i64 x4], .int .i64 q5, .int .i64 0]) ∧ Below w.heap.size w w' := by
  obtain ⟨h1, h3⟩ := h1
  obtain ⟨h2, h4⟩ := h2
  go_enter Tryd.func89, Tryd.ntmps89
  go_wp2
  refine wp_loop_rounds 6 ?_; rw [rounds_succ]
  go_wp2_with fail
  refine (g0 _).mono ?_
  rintro e w' ⟨rfl, hw⟩
  subst hw
  go_wp2_with fail
  rw [rounds_succ]
  go_wp2_with fail
  refine (g1 _).mono ?_
  rintro e w' ⟨rfl, hw⟩
  subst hw
  go_wp2_with fail
  rw [rounds_succ]
  go_wp2_with fail
  refine (g2 _).mono ?_
  rintro e w' ⟨rfl, hw⟩
  subst hw
  go_wp2_with fail
  rw [rounds_succ]
  go_wp2_with fail
  refine (g3 _).mono ?_
  rintro e w' ⟨rfl, hw⟩
  subst hw
  go_wp2_with fail
  rw [rounds_succ]
  go_wp2_with fail
  refine (g4 _).mono ?_
  rintro e w' ⟨rfl, hw⟩
  subst hw
  go_wp2_with fail
  rw [rounds_succ]
  go_wp2
  exact bodyPost_ret (v := .tuple #[.agg #[.int .i64 x0, .int .i64 x1, .int .i64 (x1 + x2), .int .i64 x3, .int .i64 x4], .int .i64 q5, .int .i64 0]) (by simp [results, Tryd.results89, go_sem]) rfl ⟨rfl, (((((Below.refl _ _).alloc (Nat.le_refl _) _).alloc (by simp) _)).alloc (by simp; omega) _)⟩

end Go.Proofs.YtoepcplbpochpaaDoor
