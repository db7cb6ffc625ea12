/-
  What lodgeref.Get answers, at every string and place.
-/
import Derived.Test.YtoepcplbpochpaaDoorUnit7

namespace Go.Proofs.YtoepcplbpochpaaDoor
open Go.RowKit

theorem refput_yes (n : Int) (w : World) (h0 : 0 ≤ n) (h1 : n ≤ 2097151) :
    Calls Tryd.prog 117 #[.int .i64 n] w fun e w' => e = .returned (.tuple #[.string (numS n), .int .i64 0]) ∧ Below w.heap.size w w' := by
  have := refput_any n w
  rw [putR_yes h0 h1] at this
  exact this

set_option maxRecDepth 100000 in
set_option maxHeartbeats 1000000 in
theorem refget_a (s : ByteArray) (k : Nat) (w : World) (hs : s.size ≤ maxLen) (hi : (k : Int) ≤ 9223372036854775807) (hk : k < s.size) (a : ((s[k]).toNat : Int) < 128) :
    Calls Tryd.prog 92 #[.string s, .int .i64 k] w fun e w' => e = .returned (getR s k) ∧ Below w.heap.size w w' := by
  unfold maxLen at hs
  have ba : ((s[k]).toNat : Int) < 256 := byte_lt _
  have t1 := t1_yes hk a
  rw [getR_some (get_a hk a)]
  go_enter Tryd.func92, Tryd.ntmps92
  go_wp2
  refine wp_loop_rounds 1 ?_; rw [rounds_succ]
  go_wp2
  refine wp_loop_rounds 1 ?_; rw [rounds_succ]
  go_wp2_with fail
  refine (refput_yes _ _ (by omega) (by omega)).mono ?_
  rintro e w' ⟨rfl, hb⟩
  go_wp2_with fail
  go_ret3
  exact ⟨ret3 (by omega) (by omega), hb⟩

set_option maxRecDepth 100000 in
set_option maxHeartbeats 1000000 in
theorem refget_a_end (s : ByteArray) (k : Nat) (w : World) (hs : s.size ≤ maxLen) (hi : (k : Int) ≤ 9223372036854775807) (hk : k < s.size) (a : ¬ ((s[k]).toNat : Int) < 128) (hx : s.size ≤ k + 1) :
    Calls Tryd.prog 92 #[.string s, .int .i64 k] w fun e w' => e = .returned (getR s k) ∧ Below w.heap.size w w' := by
  unfold maxLen at hs
  have ba : ((s[k]).toNat : Int) < 256 := byte_lt _
  have t1 := t1_no (by omega) a
  rw [getR_none (get_a_end hk a hx)]
  go_enter Tryd.func92, Tryd.ntmps92
  go_wp2
  refine wp_loop_rounds 2 ?_; rw [rounds_succ]
  go_wp2
  refine wp_loop_rounds 1 ?_; rw [rounds_succ]
  go_wp2_with fail
  refine (refput_yes _ _ (by omega) (by omega)).mono ?_
  rintro e w1 ⟨rfl, hb1⟩
  go_wp2_with fail
  rw [rounds_succ]
  go_wp2
  go_ret3
  exact ⟨rfl, hb1⟩

set_option maxRecDepth 100000 in
set_option maxHeartbeats 1000000 in
theorem refget_b (s : ByteArray) (k : Nat) (w : World) (hs : s.size ≤ maxLen) (hi : (k : Int) ≤ 9223372036854775807) (hk : k + 1 < s.size) (a : ¬ ((s[k]).toNat : Int) < 128) (b : ((s[k + 1]).toNat : Int) < 128) (b' : ¬ ((s[k + 1]).toNat : Int) = 0) :
    Calls Tryd.prog 92 #[.string s, .int .i64 k] w fun e w' => e = .returned (getR s k) ∧ Below w.heap.size w w' := by
  unfold maxLen at hs
  have ba : ((s[k]).toNat : Int) < 256 := byte_lt _
  have bb : ((s[k + 1]).toNat : Int) < 256 := byte_lt _
  have t1 := t1_no (by omega) a
  have t2 := t2_yes hk (by omega)
  rw [getR_some (get_b hk a b b')]
  go_enter Tryd.func92, Tryd.ntmps92
  go_wp2
  refine wp_loop_rounds 2 ?_; rw [rounds_succ]
  go_wp2
  refine wp_loop_rounds 1 ?_; rw [rounds_succ]
  go_wp2_with fail
  refine (refput_yes _ _ (by omega) (by omega)).mono ?_
  rintro e w1 ⟨rfl, hb1⟩
  go_wp2_with fail
  rw [rounds_succ]
  go_wp2
  refine wp_loop_rounds 2 ?_; rw [rounds_succ]
  go_wp2
  rw [rounds_succ]
  go_wp2_with fail
  refine (refput_yes _ _ (by omega) (by omega)).mono ?_
  rintro e w2 ⟨rfl, hb2⟩
  go_wp2_with fail
  go_ret3
  exact ⟨ret3 (by omega) (by omega), (hb1.trans (hb2.mono hb1.size))⟩

set_option maxRecDepth 100000 in
set_option maxHeartbeats 1000000 in
theorem refget_b_end (s : ByteArray) (k : Nat) (w : World) (hs : s.size ≤ maxLen) (hi : (k : Int) ≤ 9223372036854775807) (hk : k + 1 < s.size) (a : ¬ ((s[k]).toNat : Int) < 128) (b : ¬ ((s[k + 1]).toNat : Int) < 128) (hx : s.size ≤ k + 1 + 1) :
    Calls Tryd.prog 92 #[.string s, .int .i64 k] w fun e w' => e = .returned (getR s k) ∧ Below w.heap.size w w' := by
  unfold maxLen at hs
  have ba : ((s[k]).toNat : Int) < 256 := byte_lt _
  have bb : ((s[k + 1]).toNat : Int) < 256 := byte_lt _
  have t1 := t1_no (by omega) a
  have t2 := t2_no (by omega : k + 1 < s.size) (by omega)
  rw [getR_none (get_b_end hk a b hx)]
  go_enter Tryd.func92, Tryd.ntmps92
  go_wp2
  refine wp_loop_rounds 3 ?_; rw [rounds_succ]
  go_wp2
  refine wp_loop_rounds 1 ?_; rw [rounds_succ]
  go_wp2_with fail
  refine (refput_yes _ _ (by omega) (by omega)).mono ?_
  rintro e w1 ⟨rfl, hb1⟩
  go_wp2_with fail
  rw [rounds_succ]
  go_wp2
  refine wp_loop_rounds 2 ?_; rw [rounds_succ]
  go_wp2
  rw [rounds_succ]
  go_wp2_with fail
  refine (refput_yes _ _ (by omega) (by omega)).mono ?_
  rintro e w2 ⟨rfl, hb2⟩
  go_wp2_with fail
  rw [rounds_succ]
  go_wp2
  go_ret3
  exact ⟨rfl, (hb1.trans (hb2.mono hb1.size))⟩

set_option maxRecDepth 100000 in
set_option maxHeartbeats 1000000 in
theorem refget_b_zero_end (s : ByteArray) (k : Nat) (w : World) (hs : s.size ≤ maxLen) (hi : (k : Int) ≤ 9223372036854775807) (hk : k + 1 < s.size) (a : ¬ ((s[k]).toNat : Int) < 128) (b : ((s[k + 1]).toNat : Int) = 0) (hx : s.size ≤ k + 1 + 1) :
    Calls Tryd.prog 92 #[.string s, .int .i64 k] w fun e w' => e = .returned (getR s k) ∧ Below w.heap.size w w' := by
  unfold maxLen at hs
  have ba : ((s[k]).toNat : Int) < 256 := byte_lt _
  have bb : ((s[k + 1]).toNat : Int) < 128 := by omega
  have t1 := t1_no (by omega) a
  have t2 := t2_no (by omega : k + 1 < s.size) (by omega)
  rw [getR_none (get_b_zero hk a b)]
  clear b
  go_enter Tryd.func92, Tryd.ntmps92
  go_wp2
  refine wp_loop_rounds 3 ?_; rw [rounds_succ]
  go_wp2
  refine wp_loop_rounds 1 ?_; rw [rounds_succ]
  go_wp2_with fail
  refine (refput_yes _ _ (by omega) (by omega)).mono ?_
  rintro e w1 ⟨rfl, hb1⟩
  go_wp2_with fail
  rw [rounds_succ]
  go_wp2
  refine wp_loop_rounds 2 ?_; rw [rounds_succ]
  go_wp2
  rw [rounds_succ]
  go_wp2_with fail
  refine (refput_yes _ _ (by omega) (by omega)).mono ?_
  rintro e w2 ⟨rfl, hb2⟩
  go_wp2_with fail
  rw [rounds_succ]
  go_wp2
  go_ret3
  exact ⟨rfl, (hb1.trans (hb2.mono hb1.size))⟩

end Go.Proofs.YtoepcplbpochpaaDoor

/-
  What lodgeref.Get answers where a third byte is looked at.
-/
namespace Go.Proofs.YtoepcplbpochpaaDoor
open Go.RowKit

set_option maxRecDepth 100000 in
set_option maxHeartbeats 1000000 in
theorem refget_c (s : ByteArray) (k : Nat) (w : World) (hs : s.size ≤ maxLen) (hi : (k : Int) ≤ 9223372036854775807) (hk : k + 1 + 1 < s.size) (a : ¬ ((s[k]).toNat : Int) < 128) (b : ¬ ((s[k + 1]).toNat : Int) < 128) (c : ((s[k + 2]).toNat : Int) < 128) (c' : ¬ ((s[k + 2]).toNat : Int) = 0) :
    Calls Tryd.prog 92 #[.string s, .int .i64 k] w fun e w' => e = .returned (getR s k) ∧ Below w.heap.size w w' := by
  unfold maxLen at hs
  have ba : ((s[k]).toNat : Int) < 256 := byte_lt _
  have bb : ((s[k + 1]).toNat : Int) < 256 := byte_lt _
  have bc : ((s[k + 2]).toNat : Int) < 256 := byte_lt _
  have t1 := t1_no (by omega) a
  have t2 := t2_no (by omega : k + 1 < s.size) (by omega)
  have t3 : ((numS (((s[k]).toNat : Int) % 128 + 128 * (((s[k + 1]).toNat : Int) % 128) + 128 * (128 * (((s[k + 2]).toNat : Int) % 128)))).toList == (s.extract k (k + 2 + 1)).toList) = true := t3_yes hk ⟨by omega, by omega, c, c'⟩
  have gc : getR s k = .tuple #[.int .i64 (((s[k]).toNat : Int) % 128 + ((s[k + 1]).toNat : Int) % 128 * 128 + ((s[k + 2]).toNat : Int) * 16384), .int .i64 (k + (3 : Nat)), .int .i64 0] := getR_some (get_c hk a b c c')
  rw [gc]
  clear gc
  go_enter Tryd.func92, Tryd.ntmps92
  go_wp2
  refine wp_loop_rounds 3 ?_; rw [rounds_succ]
  go_wp2
  refine wp_loop_rounds 1 ?_; rw [rounds_succ]
  go_wp2_with fail
  refine (refput_yes _ _ (by omega) (by omega)).mono ?_
  rintro e w1 ⟨rfl, hb1⟩
  go_wp2_with fail
  rw [rounds_succ]
  go_wp2
  refine wp_loop_rounds 2 ?_; rw [rounds_succ]
  go_wp2
  rw [rounds_succ]
  go_wp2_with fail
  refine (refput_yes _ _ (by omega) (by omega)).mono ?_
  rintro e w2 ⟨rfl, hb2⟩
  go_wp2_with fail
  rw [rounds_succ]
  go_wp2
  refine wp_loop_rounds 3 ?_; rw [rounds_succ]
  go_wp2
  rw [rounds_succ]
  go_wp2
  rw [rounds_succ]
  go_wp2_with fail
  refine (refput_yes _ _ (by omega) (by omega)).mono ?_
  rintro e w3 ⟨rfl, hb3⟩
  go_wp2_with fail
  go_ret3
  exact ⟨ret3 (by omega) (by omega), ((hb1.trans (hb2.mono hb1.size)).trans (hb3.mono (Nat.le_trans hb1.size hb2.size)))⟩

end Go.Proofs.YtoepcplbpochpaaDoor

/-
  What lodgeref.Get answers where a third byte is looked at.
-/
namespace Go.Proofs.YtoepcplbpochpaaDoor
open Go.RowKit

set_option maxRecDepth 100000 in
set_option maxHeartbeats 1000000 in
theorem refget_b_zero (s : ByteArray) (k : Nat) (w : World) (hs : s.size ≤ maxLen) (hi : (k : Int) ≤ 9223372036854775807) (hk : k + 1 + 1 < s.size) (a : ¬ ((s[k]).toNat : Int) < 128) (b : ((s[k + 1]).toNat : Int) = 0) :
    Calls Tryd.prog 92 #[.string s, .int .i64 k] w fun e w' => e = .returned (getR s k) ∧ Below w.heap.size w w' := by
  unfold maxLen at hs
  have ba : ((s[k]).toNat : Int) < 256 := byte_lt _
  have bb : ((s[k + 1]).toNat : Int) < 128 := by omega
  have bc : ((s[k + 2]).toNat : Int) < 256 := byte_lt _
  have t1 := t1_no (by omega) a
  have t2 := t2_no (by omega : k + 1 < s.size) (by omega)
  have t3 : ((numS (((s[k]).toNat : Int) % 128 + 128 * (((s[k + 1]).toNat : Int) % 128) + 128 * (128 * (((s[k + 2]).toNat : Int) % 128)))).toList == (s.extract k (k + 2 + 1)).toList) = false := t3_no hk (by omega)
  rw [getR_none (get_b_zero (by omega) a b)]
  clear b
  go_enter Tryd.func92, Tryd.ntmps92
  go_wp2
  refine wp_loop_rounds 4 ?_; rw [rounds_succ]
  go_wp2
  refine wp_loop_rounds 1 ?_; rw [rounds_succ]
  go_wp2_with fail
  refine (refput_yes _ _ (by omega) (by omega)).mono ?_
  rintro e w1 ⟨rfl, hb1⟩
  go_wp2_with fail
  rw [rounds_succ]
  go_wp2
  refine wp_loop_rounds 2 ?_; rw [rounds_succ]
  go_wp2
  rw [rounds_succ]
  go_wp2_with fail
  refine (refput_yes _ _ (by omega) (by omega)).mono ?_
  rintro e w2 ⟨rfl, hb2⟩
  go_wp2_with fail
  rw [rounds_succ]
  go_wp2
  refine wp_loop_rounds 3 ?_; rw [rounds_succ]
  go_wp2
  rw [rounds_succ]
  go_wp2
  rw [rounds_succ]
  go_wp2_with fail
  refine (refput_yes _ _ (by omega) (by omega)).mono ?_
  rintro e w3 ⟨rfl, hb3⟩
  go_wp2_with fail
  rw [rounds_succ]
  go_wp2
  go_ret3
  exact ⟨rfl, ((hb1.trans (hb2.mono hb1.size)).trans (hb3.mono (Nat.le_trans hb1.size hb2.size)))⟩

end Go.Proofs.YtoepcplbpochpaaDoor

/-
  What lodgeref.Get answers where a third byte is looked at.
-/
namespace Go.Proofs.YtoepcplbpochpaaDoor
open Go.RowKit

set_option maxRecDepth 100000 in
set_option maxHeartbeats 1000000 in
theorem refget_c_zero (s : ByteArray) (k : Nat) (w : World) (hs : s.size ≤ maxLen) (hi : (k : Int) ≤ 9223372036854775807) (hk : k + 1 + 1 < s.size) (a : ¬ ((s[k]).toNat : Int) < 128) (b : ¬ ((s[k + 1]).toNat : Int) < 128) (c : ((s[k + 2]).toNat : Int) = 0) :
    Calls Tryd.prog 92 #[.string s, .int .i64 k] w fun e w' => e = .returned (getR s k) ∧ Below w.heap.size w w' := by
  unfold maxLen at hs
  have ba : ((s[k]).toNat : Int) < 256 := byte_lt _
  have bb : ((s[k + 1]).toNat : Int) < 256 := byte_lt _
  have bc : ((s[k + 2]).toNat : Int) < 256 := byte_lt _
  have t1 := t1_no (by omega) a
  have t2 := t2_no (by omega : k + 1 < s.size) (by omega)
  have t3 : ((numS (((s[k]).toNat : Int) % 128 + 128 * (((s[k + 1]).toNat : Int) % 128) + 128 * (128 * (((s[k + 2]).toNat : Int) % 128)))).toList == (s.extract k (k + 2 + 1)).toList) = false := t3_no hk (fun p => p.2.2.2 c)
  rw [getR_none (get_c_zero hk a b c)]
  clear c
  go_enter Tryd.func92, Tryd.ntmps92
  go_wp2
  refine wp_loop_rounds 4 ?_; rw [rounds_succ]
  go_wp2
  refine wp_loop_rounds 1 ?_; rw [rounds_succ]
  go_wp2_with fail
  refine (refput_yes _ _ (by omega) (by omega)).mono ?_
  rintro e w1 ⟨rfl, hb1⟩
  go_wp2_with fail
  rw [rounds_succ]
  go_wp2
  refine wp_loop_rounds 2 ?_; rw [rounds_succ]
  go_wp2
  rw [rounds_succ]
  go_wp2_with fail
  refine (refput_yes _ _ (by omega) (by omega)).mono ?_
  rintro e w2 ⟨rfl, hb2⟩
  go_wp2_with fail
  rw [rounds_succ]
  go_wp2
  refine wp_loop_rounds 3 ?_; rw [rounds_succ]
  go_wp2
  rw [rounds_succ]
  go_wp2
  rw [rounds_succ]
  go_wp2_with fail
  refine (refput_yes _ _ (by omega) (by omega)).mono ?_
  rintro e w3 ⟨rfl, hb3⟩
  go_wp2_with fail
  rw [rounds_succ]
  go_wp2
  go_ret3
  exact ⟨rfl, ((hb1.trans (hb2.mono hb1.size)).trans (hb3.mono (Nat.le_trans hb1.size hb2.size)))⟩

end Go.Proofs.YtoepcplbpochpaaDoor

/-
  What lodgeref.Get answers where a third byte is looked at.
-/
namespace Go.Proofs.YtoepcplbpochpaaDoor
open Go.RowKit

set_option maxRecDepth 100000 in
set_option maxHeartbeats 1000000 in
theorem refget_c_no (s : ByteArray) (k : Nat) (w : World) (hs : s.size ≤ maxLen) (hi : (k : Int) ≤ 9223372036854775807) (hk : k + 1 + 1 < s.size) (a : ¬ ((s[k]).toNat : Int) < 128) (b : ¬ ((s[k + 1]).toNat : Int) < 128) (c : ¬ ((s[k + 2]).toNat : Int) < 128) :
    Calls Tryd.prog 92 #[.string s, .int .i64 k] w fun e w' => e = .returned (getR s k) ∧ Below w.heap.size w w' := by
  unfold maxLen at hs
  have ba : ((s[k]).toNat : Int) < 256 := byte_lt _
  have bb : ((s[k + 1]).toNat : Int) < 256 := byte_lt _
  have bc : ((s[k + 2]).toNat : Int) < 256 := byte_lt _
  have t1 := t1_no (by omega) a
  have t2 := t2_no (by omega : k + 1 < s.size) (by omega)
  have t3 : ((numS (((s[k]).toNat : Int) % 128 + 128 * (((s[k + 1]).toNat : Int) % 128) + 128 * (128 * (((s[k + 2]).toNat : Int) % 128)))).toList == (s.extract k (k + 2 + 1)).toList) = false := t3_no hk (fun p => c p.2.2.1)
  rw [getR_none (get_c_no hk a b c)]
  go_enter Tryd.func92, Tryd.ntmps92
  go_wp2
  refine wp_loop_rounds 4 ?_; rw [rounds_succ]
  go_wp2
  refine wp_loop_rounds 1 ?_; rw [rounds_succ]
  go_wp2_with fail
  refine (refput_yes _ _ (by omega) (by omega)).mono ?_
  rintro e w1 ⟨rfl, hb1⟩
  go_wp2_with fail
  rw [rounds_succ]
  go_wp2
  refine wp_loop_rounds 2 ?_; rw [rounds_succ]
  go_wp2
  rw [rounds_succ]
  go_wp2_with fail
  refine (refput_yes _ _ (by omega) (by omega)).mono ?_
  rintro e w2 ⟨rfl, hb2⟩
  go_wp2_with fail
  rw [rounds_succ]
  go_wp2
  refine wp_loop_rounds 3 ?_; rw [rounds_succ]
  go_wp2
  rw [rounds_succ]
  go_wp2
  rw [rounds_succ]
  go_wp2_with fail
  refine (refput_yes _ _ (by omega) (by omega)).mono ?_
  rintro e w3 ⟨rfl, hb3⟩
  go_wp2_with fail
  rw [rounds_succ]
  go_wp2
  go_ret3
  exact ⟨rfl, ((hb1.trans (hb2.mono hb1.size)).trans (hb3.mono (Nat.le_trans hb1.size hb2.size)))⟩

end Go.Proofs.YtoepcplbpochpaaDoor

/-
  What lodgeref.Get answers at every string and place.
-/
namespace Go.Proofs.YtoepcplbpochpaaDoor
open Go.RowKit

theorem refget_any (s : ByteArray) (i : Int) (w : World) (hs : s.size ≤ maxLen) (hi : i ≤ 9223372036854775807) :
    Calls Tryd.prog 92 #[.string s, .int .i64 i] w fun e w' => e = .returned (getR s i) ∧ Below w.heap.size w w' := by
  by_cases h0 : i < 0
  · rw [getR_neg h0]
    go_enter Tryd.func92, Tryd.ntmps92
    go_wp2
    go_ret3
    exact ⟨rfl, Below.refl _ _⟩
  obtain ⟨k, rfl⟩ := Int.eq_ofNat_of_zero_le (by omega : 0 ≤ i)
  by_cases hk : k < s.size
  case neg =>
    rw [getR_none (get_out (by omega))]
    unfold maxLen at hs
    go_enter Tryd.func92, Tryd.ntmps92
    go_wp2
    go_ret3
    exact ⟨rfl, Below.refl _ _⟩
  by_cases a : ((s[k]).toNat : Int) < 128
  · exact refget_a s k w hs hi hk a
  by_cases hk1 : k + 1 < s.size
  case neg => exact refget_a_end s k w hs hi hk a (by omega)
  by_cases b' : ((s[k + 1]).toNat : Int) = 0
  · by_cases hk2 : k + 1 + 1 < s.size
    · exact refget_b_zero s k w hs hi hk2 a b'
    · exact refget_b_zero_end s k w hs hi hk1 a b' (by omega)
  by_cases b : ((s[k + 1]).toNat : Int) < 128
  · exact refget_b s k w hs hi hk1 a b b'
  by_cases hk2 : k + 1 + 1 < s.size
  case neg => exact refget_b_end s k w hs hi hk1 a b (by omega)
  by_cases c' : ((s[k + 2]).toNat : Int) = 0
  · exact refget_c_zero s k w hs hi hk2 a b c'
  by_cases c : ((s[k + 2]).toNat : Int) < 128
  · exact refget_c s k w hs hi hk2 a b c c'
  · exact refget_c_no s k w hs hi hk2 a b c
end Go.Proofs.YtoepcplbpochpaaDoor
