/-
  What lodgeref.Get answers where a third byte is looked at.
-/
import Derived.Test.YtoepcplbpochpaaDoorRefGet
namespace Go.Proofs.YtoepcplbpochpaaDoor
open Go.RowKit

set_option maxRecDepth 100000 in
set_option maxHeartbeats 1000000 in
theorem refget_c_zero (s : ByteArray) (k : Nat) (w : World) (hs : s.size ≤ maxLen) (hi : (k : Int) ≤ 9223372036854775807) (hk : k + 1 + 1 < s.size) (a : ¬ ((s[k]).toNat : Int) < 128) (b : ¬ ((s[k + 1]).toNat : Int) < 128) (c : ((s[k + 2]).toNat : Int) = 0) :
    Calls Tryd.prog 92 #[.string s, .int .i64 k] w fun e w' => e = .returned (getR s k) ∧ Below w.heap.size w w' := by
  unfold maxLen at hs
  have ba : ((s[k]).toNat : Int) < 256 := byte_lt _
  have bb : ((s[k + 1]).toNat : Int) < 256 := byte_lt _
  have bc : ((s[k + 2]).toNat : Int) < 256 := byte_lt _
  have t1 := t1_no (by omega) a
  have t2 := t2_no (by omega : k + 1 < s.size) (by omega)
  have t3 : ((numS (((s[k]).toNat : Int) % 128 + 128 * (((s[k + 1]).toNat : Int) % 128) + 128 * (128 * (((s[k + 2]).toNat : Int) % 128)))).toList == (s.extract k (k + 2 + 1)).toList) = false := t3_no hk (fun p => p.2.2.2 c)
  rw [getR_none (get_c_zero hk a b c)]
  clear c
  go_enter Tryd.func92, Tryd.ntmps92
  go_wp2
  refine wp_loop_rounds 4 ?_; rw [rounds_succ]
  go_wp2
  refine wp_loop_rounds 1 ?_; rw [rounds_succ]
  go_wp2_with fail
  refine (refput_yes _ _ (by omega) (by omega)).mono ?_
  rintro e w1 ⟨rfl, hb1⟩
  go_wp2_with fail
  rw [rounds_succ]
  go_wp2
  refine wp_loop_rounds 2 ?_; rw [rounds_succ]
  go_wp2
  rw [rounds_succ]
  go_wp2_with fail
  refine (refput_yes _ _ (by omega) (by omega)).mono ?_
  rintro e w2 ⟨rfl, hb2⟩
  go_wp2_with fail
  rw [rounds_succ]
  go_wp2
  refine wp_loop_rounds 3 ?_; rw [rounds_succ]
  go_wp2
  rw [rounds_succ]
  go_wp2
  rw [rounds_succ]
  go_wp2_with fail
  refine (refput_yes _ _ (by omega) (by omega)).mono ?_
  rintro e w3 ⟨rfl, hb3⟩
  go_wp2_with fail
  rw [rounds_succ]
  go_wp2
  go_ret3
  exact ⟨rfl, ((hb1.trans (hb2.mono hb1.size)).trans (hb3.mono (Nat.le_trans hb1.size hb2.size)))⟩

end Go.Proofs.YtoepcplbpochpaaDoor
