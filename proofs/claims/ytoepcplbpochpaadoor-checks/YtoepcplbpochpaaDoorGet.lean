/-
  What leb.Get and lodgeref.Get answer, at every string and place.
-/
import Derived.Test.YtoepcplbpochpaaDoorPut
namespace Go.Proofs.YtoepcplbpochpaaDoor
open Go.RowKit

theorem ret3 {a a' b b' c : Int} (h : a = a') (h' : b = b') : Ending.returned (.tuple #[.int .i64 a, .int .i64 b, .int .i64 c]) = Ending.returned (.tuple #[.int .i64 a', .int .i64 b', .int .i64 c]) := by rw [h, h']

set_option maxRecDepth 100000 in
set_option maxHeartbeats 1000000 in
theorem get_any (s : ByteArray) (i : Int) (w : World) (hs : s.size ≤ maxLen) (hi : i ≤ 9223372036854775807) :
    Calls Tryd.prog 88 #[.string s, .int .i64 i] w fun e w' => e = .returned (getR s i) ∧ w' = w := by
  unfold maxLen at hs
  by_cases h0 : i < 0
  · rw [getR_neg h0]
    go_enter Tryd.func88, Tryd.ntmps88
    go_wp2
    go_ret3
    exact ⟨rfl, rfl⟩
  obtain ⟨k, rfl⟩ := Int.eq_ofNat_of_zero_le (by omega : 0 ≤ i)
  by_cases hk : k < s.size
  case neg =>
    rw [getR_none (get_out (by omega))]
    go_enter Tryd.func88, Tryd.ntmps88
    go_wp2
    refine wp_loop_rounds 1 ?_; rw [rounds_succ]
    go_wp2
    go_ret3
    exact ⟨rfl, rfl⟩
  have ba : ((s[k]).toNat : Int) < 256 := by have := (s[k]).toNat_lt; omega
  by_cases a : ((s[k]).toNat : Int) < 128
  case pos =>
    rw [getR_some (get_a hk a)]
    go_enter Tryd.func88, Tryd.ntmps88
    go_wp2
    refine wp_loop_rounds 1 ?_; rw [rounds_succ]
    go_wp2
    all_goals go_ret3
    all_goals exact ⟨ret3 (by omega) (by omega), rfl⟩
  by_cases hk1 : k + 1 < s.size
  case neg =>
    rw [getR_none (get_a_end hk a (by omega))]
    go_enter Tryd.func88, Tryd.ntmps88
    go_wp2
    refine wp_loop_rounds 2 ?_; rw [rounds_succ]
    go_wp2
    rw [rounds_succ]
    go_wp2
    all_goals go_ret3
    all_goals exact ⟨rfl, rfl⟩
  have bb : ((s[k + 1]).toNat : Int) < 256 := by have := (s[k + 1]).toNat_lt; omega
  by_cases b : ((s[k + 1]).toNat : Int) < 128
  case pos =>
    by_cases b' : ((s[k + 1]).toNat : Int) = 0
    · rw [getR_none (get_b_zero hk1 a b')]
      go_enter Tryd.func88, Tryd.ntmps88
      go_wp2
      refine wp_loop_rounds 2 ?_; rw [rounds_succ]
      go_wp2
      rw [rounds_succ]
      go_wp2
      all_goals go_ret3
      all_goals exact ⟨rfl, rfl⟩
    · rw [getR_some (get_b hk1 a b b')]
      go_enter Tryd.func88, Tryd.ntmps88
      go_wp2
      refine wp_loop_rounds 2 ?_; rw [rounds_succ]
      go_wp2
      rw [rounds_succ]
      go_wp2
      all_goals go_ret3
      all_goals exact ⟨ret3 (by omega) (by omega), rfl⟩
  by_cases hk2 : k + 1 + 1 < s.size
  case neg =>
    rw [getR_none (get_b_end hk1 a b (by omega))]
    go_enter Tryd.func88, Tryd.ntmps88
    go_wp2
    refine wp_loop_rounds 3 ?_; rw [rounds_succ]
    go_wp2
    rw [rounds_succ]
    go_wp2
    rw [rounds_succ]
    go_wp2
    all_goals go_ret3
    all_goals exact ⟨rfl, rfl⟩
  have bc : ((s[k + 1 + 1]).toNat : Int) < 256 := by have := (s[k + 1 + 1]).toNat_lt; omega
  by_cases c : ((s[k + 1 + 1]).toNat : Int) < 128
  case neg =>
    rw [getR_none (get_c_no hk2 a b c)]
    go_enter Tryd.func88, Tryd.ntmps88
    go_wp2
    refine wp_loop_rounds 4 ?_; rw [rounds_succ]
    go_wp2
    rw [rounds_succ]
    go_wp2
    rw [rounds_succ]
    go_wp2
    rw [rounds_succ]
    go_wp2
    all_goals go_ret3
    all_goals exact ⟨rfl, rfl⟩
  by_cases c' : ((s[k + 1 + 1]).toNat : Int) = 0
  · rw [getR_none (get_c_zero hk2 a b c')]
    go_enter Tryd.func88, Tryd.ntmps88
    go_wp2
    refine wp_loop_rounds 3 ?_; rw [rounds_succ]
    go_wp2
    rw [rounds_succ]
    go_wp2
    rw [rounds_succ]
    go_wp2
    all_goals go_ret3
    all_goals exact ⟨rfl, rfl⟩
  · rw [getR_some (get_c hk2 a b c c')]
    go_enter Tryd.func88, Tryd.ntmps88
    go_wp2
    refine wp_loop_rounds 3 ?_; rw [rounds_succ]
    go_wp2
    rw [rounds_succ]
    go_wp2
    rw [rounds_succ]
    go_wp2
    all_goals go_ret3
    all_goals exact ⟨ret3 (by omega) (by omega), rfl⟩
end Go.Proofs.YtoepcplbpochpaaDoor
