/-
  What lodgeref.Get answers, at every string and place.
-/
import Derived.Test.YtoepcplbpochpaaDoorGet
import Derived.Test.YtoepcplbpochpaaDoorMathTwo
namespace Go.Proofs.YtoepcplbpochpaaDoor
open Go.RowKit

theorem refput_yes (n : Int) (w : World) (h0 : 0 ≤ n) (h1 : n ≤ 2097151) :
    Calls Tryd.prog 117 #[.int .i64 n] w fun e w' => e = .returned (.tuple #[.string (numS n), .int .i64 0]) ∧ Below w.heap.size w w' := by
  have := refput_any n w
  rw [putR_yes h0 h1] at this
  exact this

set_option maxRecDepth 100000 in
set_option maxHeartbeats 1000000 in
theorem refget_a (s : ByteArray) (k : Nat) (w : World) (hs : s.size ≤ maxLen) (hi : (k : Int) ≤ 9223372036854775807) (hk : k < s.size) (a : ((s[k]).toNat : Int) < 128) :
    Calls Tryd.prog 92 #[.string s, .int .i64 k] w fun e w' => e = .returned (getR s k) ∧ Below w.heap.size w w' := by
  unfold maxLen at hs
  have ba : ((s[k]).toNat : Int) < 256 := byte_lt _
  have t1 := t1_yes hk a
  rw [getR_some (get_a hk a)]
  go_enter Tryd.func92, Tryd.ntmps92
  go_wp2
  refine wp_loop_rounds 1 ?_; rw [rounds_succ]
  go_wp2
  refine wp_loop_rounds 1 ?_; rw [rounds_succ]
  go_wp2_with fail
  refine (refput_yes _ _ (by omega) (by omega)).mono ?_
  rintro e w' ⟨rfl, hb⟩
  go_wp2_with fail
  go_ret3
  exact ⟨ret3 (by omega) (by omega), hb⟩

set_option maxRecDepth 100000 in
set_option maxHeartbeats 1000000 in
theorem refget_a_end (s : ByteArray) (k : Nat) (w : World) (hs : s.size ≤ maxLen) (hi : (k : Int) ≤ 9223372036854775807) (hk : k < s.size) (a : ¬ ((s[k]).toNat : Int) < 128) (hx : s.size ≤ k + 1) :
    Calls Tryd.prog 92 #[.string s, .int .i64 k] w fun e w' => e = .returned (getR s k) ∧ Below w.heap.size w w' := by
  unfold maxLen at hs
  have ba : ((s[k]).toNat : Int) < 256 := byte_lt _
  have t1 := t1_no (by omega) a
  rw [getR_none (get_a_end hk a hx)]
  go_enter Tryd.func92, Tryd.ntmps92
  go_wp2
  refine wp_loop_rounds 2 ?_; rw [rounds_succ]
  go_wp2
  refine wp_loop_rounds 1 ?_; rw [rounds_succ]
  go_wp2_with fail
  refine (refput_yes _ _ (by omega) (by omega)).mono ?_
  rintro e w1 ⟨rfl, hb1⟩
  go_wp2_with fail
  rw [rounds_succ]
  go_wp2
  go_ret3
  exact ⟨rfl, hb1⟩

set_option maxRecDepth 100000 in
set_option maxHeartbeats 1000000 in
theorem refget_b (s : ByteArray) (k : Nat) (w : World) (hs : s.size ≤ maxLen) (hi : (k : Int) ≤ 9223372036854775807) (hk : k + 1 < s.size) (a : ¬ ((s[k]).toNat : Int) < 128) (b : ((s[k + 1]).toNat : Int) < 128) (b' : ¬ ((s[k + 1]).toNat : Int) = 0) :
    Calls Tryd.prog 92 #[.string s, .int .i64 k] w fun e w' => e = .returned (getR s k) ∧ Below w.heap.size w w' := by
  unfold maxLen at hs
  have ba : ((s[k]).toNat : Int) < 256 := byte_lt _
  have bb : ((s[k + 1]).toNat : Int) < 256 := byte_lt _
  have t1 := t1_no (by omega) a
  have t2 := t2_yes hk (by omega)
  rw [getR_some (get_b hk a b b')]
  go_enter Tryd.func92, Tryd.ntmps92
  go_wp2
  refine wp_loop_rounds 2 ?_; rw [rounds_succ]
  go_wp2
  refine wp_loop_rounds 1 ?_; rw [rounds_succ]
  go_wp2_with fail
  refine (refput_yes _ _ (by omega) (by omega)).mono ?_
  rintro e w1 ⟨rfl, hb1⟩
  go_wp2_with fail
  rw [rounds_succ]
  go_wp2
  refine wp_loop_rounds 2 ?_; rw [rounds_succ]
  go_wp2
  rw [rounds_succ]
  go_wp2_with fail
  refine (refput_yes _ _ (by omega) (by omega)).mono ?_
  rintro e w2 ⟨rfl, hb2⟩
  go_wp2_with fail
  go_ret3
  exact ⟨ret3 (by omega) (by omega), (hb1.trans (hb2.mono hb1.size))⟩

set_option maxRecDepth 100000 in
set_option maxHeartbeats 1000000 in
theorem refget_b_end (s : ByteArray) (k : Nat) (w : World) (hs : s.size ≤ maxLen) (hi : (k : Int) ≤ 9223372036854775807) (hk : k + 1 < s.size) (a : ¬ ((s[k]).toNat : Int) < 128) (b : ¬ ((s[k + 1]).toNat : Int) < 128) (hx : s.size ≤ k + 1 + 1) :
    Calls Tryd.prog 92 #[.string s, .int .i64 k] w fun e w' => e = .returned (getR s k) ∧ Below w.heap.size w w' := by
  unfold maxLen at hs
  have ba : ((s[k]).toNat : Int) < 256 := byte_lt _
  have bb : ((s[k + 1]).toNat : Int) < 256 := byte_lt _
  have t1 := t1_no (by omega) a
  have t2 := t2_no (by omega : k + 1 < s.size) (by omega)
  rw [getR_none (get_b_end hk a b hx)]
  go_enter Tryd.func92, Tryd.ntmps92
  go_wp2
  refine wp_loop_rounds 3 ?_; rw [rounds_succ]
  go_wp2
  refine wp_loop_rounds 1 ?_; rw [rounds_succ]
  go_wp2_with fail
  refine (refput_yes _ _ (by omega) (by omega)).mono ?_
  rintro e w1 ⟨rfl, hb1⟩
  go_wp2_with fail
  rw [rounds_succ]
  go_wp2
  refine wp_loop_rounds 2 ?_; rw [rounds_succ]
  go_wp2
  rw [rounds_succ]
  go_wp2_with fail
  refine (refput_yes _ _ (by omega) (by omega)).mono ?_
  rintro e w2 ⟨rfl, hb2⟩
  go_wp2_with fail
  rw [rounds_succ]
  go_wp2
  go_ret3
  exact ⟨rfl, (hb1.trans (hb2.mono hb1.size))⟩

set_option maxRecDepth 100000 in
set_option maxHeartbeats 1000000 in
theorem refget_b_zero_end (s : ByteArray) (k : Nat) (w : World) (hs : s.size ≤ maxLen) (hi : (k : Int) ≤ 9223372036854775807) (hk : k + 1 < s.size) (a : ¬ ((s[k]).toNat : Int) < 128) (b : ((s[k + 1]).toNat : Int) = 0) (hx : s.size ≤ k + 1 + 1) :
    Calls Tryd.prog 92 #[.string s, .int .i64 k] w fun e w' => e = .returned (getR s k) ∧ Below w.heap.size w w' := by
  unfold maxLen at hs
  have ba : ((s[k]).toNat : Int) < 256 := byte_lt _
  have bb : ((s[k + 1]).toNat : Int) < 128 := by omega
  have t1 := t1_no (by omega) a
  have t2 := t2_no (by omega : k + 1 < s.size) (by omega)
  rw [getR_none (get_b_zero hk a b)]
  clear b
  go_enter Tryd.func92, Tryd.ntmps92
  go_wp2
  refine wp_loop_rounds 3 ?_; rw [rounds_succ]
  go_wp2
  refine wp_loop_rounds 1 ?_; rw [rounds_succ]
  go_wp2_with fail
  refine (refput_yes _ _ (by omega) (by omega)).mono ?_
  rintro e w1 ⟨rfl, hb1⟩
  go_wp2_with fail
  rw [rounds_succ]
  go_wp2
  refine wp_loop_rounds 2 ?_; rw [rounds_succ]
  go_wp2
  rw [rounds_succ]
  go_wp2_with fail
  refine (refput_yes _ _ (by omega) (by omega)).mono ?_
  rintro e w2 ⟨rfl, hb2⟩
  go_wp2_with fail
  rw [rounds_succ]
  go_wp2
  go_ret3
  exact ⟨rfl, (hb1.trans (hb2.mono hb1.size))⟩

end Go.Proofs.YtoepcplbpochpaaDoor
