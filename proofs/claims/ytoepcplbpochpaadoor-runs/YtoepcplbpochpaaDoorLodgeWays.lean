/-
  What the small functions of package lodge answer: isReckoning, isWriting, nextOf, reads, writes.
-/
import Derived.Test.YtoepcplbpochpaaDoorWays
import Derived.Deep.RegionHeld3
import Derived.Handy
namespace Go.Proofs.YtoepcplbpochpaaDoor
open Go.RowKit

set_option maxRecDepth 100000 in
set_option maxHeartbeats 2000000 in
theorem isRk_any (o : Int) (w : World) : Calls Tryd.prog 135 #[.int .i64 o] w fun e w' => e = .returned (.bool (isRk o)) ∧ w' = w := by
  rcases (show o < 2 ∨ (2 ≤ o ∧ o ≤ 6) ∨ (2 ≤ o ∧ 6 < o) by omega) with h | ⟨h, h'⟩ | ⟨h, h'⟩
  all_goals
    go_enter Tryd.func135, Tryd.ntmps135
    go_wp2
    go_ret
    refine ⟨ret_bool ?_, rfl⟩
    unfold isRk
    simp
    try omega

set_option maxRecDepth 100000 in
set_option maxHeartbeats 2000000 in
theorem isWr_any (o : Int) (w : World) : Calls Tryd.prog 136 #[.int .i64 o] w fun e w' => e = .returned (.bool (isWr o)) ∧ w' = w := by
  have K := hide (isRk_any o)
  by_cases h0 : o = 0
  · subst h0
    go_enter Tryd.func136, Tryd.ntmps136
    go_wp2_with (go_at_call 135; refine (unhide K _).mono ?_; rintro e w2 ⟨rfl, rfl⟩)
    go_ret
    exact ⟨ret_bool (by decide), rfl⟩
  by_cases h1 : o = 1
  · subst h1
    go_enter Tryd.func136, Tryd.ntmps136
    go_wp2_with (go_at_call 135; refine (unhide K _).mono ?_; rintro e w2 ⟨rfl, rfl⟩)
    go_ret
    exact ⟨ret_bool (by decide), rfl⟩
  have g0 : (o == 0) = false := by rw [beq_eq_false_iff_ne]; exact h0
  have g1 : (o == 1) = false := by rw [beq_eq_false_iff_ne]; exact h1
  have hw := hide (show isWr o = isRk o by unfold isWr; rw [g0, g1]; rfl)
  go_enter Tryd.func136, Tryd.ntmps136
  go_wp2_with (go_at_call 135; refine (unhide K _).mono ?_; rintro e w2 ⟨rfl, rfl⟩)
  go_ret
  exact ⟨ret_bool (unhide hw).symm, rfl⟩

/-- The four cells of an instruction that was boxed. -/
theorem box4 (w : World) (x : In4) : ∃ w2, w2 = w.alloc (.cells #[.int .i64 x.op, .int .i64 x.d, .int .i64 x.a, .int .i64 x.b] 77) ∧ At4 w2 w.heap.size 0 x ∧ Hid (Below w.heap.size w w2) ∧ w.heap.size < w2.heap.size := by
  have q : ∀ i, (w.alloc (.cells #[.int .i64 x.op, .int .i64 x.d, .int .i64 x.a, .int .i64 x.b] 77)).cell? ⟨w.heap.size, i, none⟩ = #[Value.int .i64 x.op, .int .i64 x.d, .int .i64 x.a, .int .i64 x.b][i]? := fun i => World.cell?_alloc_at (hn := rfl) ..
  exact ⟨_, rfl, ⟨(q 0).trans rfl, (q 1).trans rfl, (q 2).trans rfl, (q 3).trans rfl⟩, (Below.refl _ _).alloc (Nat.le_refl _) _, by simp⟩

set_option maxRecDepth 100000 in
set_option maxHeartbeats 2000000 in
theorem nextOf_any (x : In4) (i : Nat) (hi : i ≤ 1000) (w : World) :
    Calls Tryd.prog 121 #[.agg #[.int .i64 x.op, .int .i64 x.d, .int .i64 x.a, .int .i64 x.b], .int .i64 i] w fun e w' =>
      e = .returned (.tuple #[.int .i64 (nx1 x i), .int .i64 (nx2 x i)]) ∧ Below w.heap.size w w' := by
  obtain ⟨op, d, a, b⟩ := x
  by_cases h7 : op = 7
  · subst h7
    go_enter Tryd.func121, Tryd.ntmps121
    go_wp2
    go_ret2
    exact ⟨ret2 rfl rfl, (Below.refl _ _).alloc (Nat.le_refl _) _⟩
  by_cases h8 : op = 8
  · subst h8
    go_enter Tryd.func121, Tryd.ntmps121
    go_wp2
    go_ret2
    exact ⟨ret2 rfl (by go_num), (Below.refl _ _).alloc (Nat.le_refl _) _⟩
  by_cases h10 : op = 10
  · subst h10
    go_enter Tryd.func121, Tryd.ntmps121
    go_wp2
    go_ret2
    exact ⟨ret2 rfl rfl, (Below.refl _ _).alloc (Nat.le_refl _) _⟩
  have g7 : (op == 7) = false := by rw [beq_eq_false_iff_ne]; exact h7
  have g8 : (op == 8) = false := by rw [beq_eq_false_iff_ne]; exact h8
  have g10 : (op == 10) = false := by rw [beq_eq_false_iff_ne]; exact h10
  have e1 := hide (show nx1 ⟨op, d, a, b⟩ i = (i : Int) + 1 by unfold nx1; rw [if_neg h7, if_neg h8, if_neg h10])
  have e2 := hide (show nx2 ⟨op, d, a, b⟩ i = -1 by unfold nx2; rw [if_neg h8])
  clear h7 h8 h10
  go_enter Tryd.func121, Tryd.ntmps121
  go_wp2
  go_ret2
  exact ⟨ret2 (by rw [unhide e1]; try go_num) (by rw [unhide e2]), (Below.refl _ _).alloc (Nat.le_refl _) _⟩

set_option maxRecDepth 100000 in
set_option maxHeartbeats 4000000 in
theorem rdB_any (x : In4) (r : Int) (w : World) :
    Calls Tryd.prog 122 #[.agg #[.int .i64 x.op, .int .i64 x.d, .int .i64 x.a, .int .i64 x.b], .int .i64 r] w fun e w' => e = .returned (.bool (rdB x r)) ∧ Below w.heap.size w w' := by
  have K := hide (isRk_any x.op)
  obtain ⟨op, d, a, b⟩ := x
  simp only at K
  by_cases hs : op = 1 ∨ op = 8 ∨ op = 9 ∨ op = 10
  · have hr := hide (show rdB ⟨op, d, a, b⟩ r = (a == r) from if_pos hs)
    rcases hs with rfl | rfl | rfl | rfl
    all_goals
      go_enter Tryd.func122, Tryd.ntmps122
      go_wp2
      go_ret
      exact ⟨ret_bool (unhide hr).symm, (Below.refl _ _).alloc (Nat.le_refl _) _⟩
  have g1 : (op == 1) = false := by rw [beq_eq_false_iff_ne]; omega
  have g8 : (op == 8) = false := by rw [beq_eq_false_iff_ne]; omega
  have g9 : (op == 9) = false := by rw [beq_eq_false_iff_ne]; omega
  have g10 : (op == 10) = false := by rw [beq_eq_false_iff_ne]; omega
  have hr := hide (show rdB ⟨op, d, a, b⟩ r = (isRk op && (a == r || b == r)) from if_neg hs)
  clear hs
  obtain ⟨t, ht⟩ : ∃ t, t = isRk op := ⟨_, rfl⟩
  rw [← ht] at K hr
  clear ht
  cases t
  · go_enter Tryd.func122, Tryd.ntmps122
    go_wp2_with (go_at_call 135; refine (unhide K _).mono ?_; rintro e w2 ⟨rfl, rfl⟩)
    go_ret
    exact ⟨ret_bool (by rw [unhide hr]; rfl), (Below.refl _ _).alloc (Nat.le_refl _) _⟩
  by_cases ha : a = r
  · subst ha
    go_enter Tryd.func122, Tryd.ntmps122
    go_wp2_with (go_at_call 135; refine (unhide K _).mono ?_; rintro e w2 ⟨rfl, rfl⟩)
    go_ret
    exact ⟨ret_bool (by rw [unhide hr]; simp), (Below.refl _ _).alloc (Nat.le_refl _) _⟩
  have ga : (a == r) = false := by rw [beq_eq_false_iff_ne]; exact ha
  rw [ga] at hr
  go_enter Tryd.func122, Tryd.ntmps122
  go_wp2_with (go_at_call 135; refine (unhide K _).mono ?_; rintro e w2 ⟨rfl, rfl⟩)
  go_ret
  exact ⟨ret_bool (by rw [unhide hr]; simp), (Below.refl _ _).alloc (Nat.le_refl _) _⟩

set_option maxRecDepth 100000 in
set_option maxHeartbeats 4000000 in
theorem wrB_any (x : In4) (r : Int) (w : World) :
    Calls Tryd.prog 123 #[.agg #[.int .i64 x.op, .int .i64 x.d, .int .i64 x.a, .int .i64 x.b], .int .i64 r] w fun e w' => e = .returned (.bool (wrB x r)) ∧ Below w.heap.size w w' := by
  have K := hide (isWr_any x.op)
  obtain ⟨op, d, a, b⟩ := x
  simp only at K
  have hr := hide (show wrB ⟨op, d, a, b⟩ r = (isWr op && d == r) from rfl)
  obtain ⟨t, ht⟩ : ∃ t, t = isWr op := ⟨_, rfl⟩
  rw [← ht] at K hr
  clear ht
  cases t
  all_goals
    go_enter Tryd.func123, Tryd.ntmps123
    go_wp2_with (go_at_call 136; refine (unhide K _).mono ?_; rintro e w2 ⟨rfl, rfl⟩)
    go_ret
    exact ⟨ret_bool (by rw [unhide hr]; simp), (Below.refl _ _).alloc (Nat.le_refl _) _⟩
end Go.Proofs.YtoepcplbpochpaaDoor
