/-
  The walk of lodgekeep.Counted where the number takes two bytes.
-/
import Derived.Test.YtoepcplbpochpaaCountedWalk
namespace Go.Proofs.Ytoepcplbpochpaa
open Go.RowKit

set_option maxRecDepth 100000 in
set_option maxHeartbeats 1000000 in
theorem counted_two (n m : Int) (A B S : ByteArray) (w : World) (h0 : -9223372036854775808 ≤ n) (h1 : n ≤ 9223372036854775807) (hm : pickI n 2097152 = m) (hm2 : 128 ≤ m) (hm1 : m < 16384)
    (hA : A.size ≤ 140737488351232) (hB : B.size ≤ 140737488351232) (hp : 1 < S.size) (F : CountedFacts m S A B (S.extract 0 1) (S.extract 0 1 ++ strOfNums [IntKind.u8.wrap (((S[1]).toNat : Int) + 128)] ++ ⟨#[0]⟩) 2)
    (T : ByteArray) (z : Int) (b : Bool) (Q : Hid (∀ w, Calls Try.prog 7 #[.int .i64 n] w fun e w' => e = .returned (.tuple #[.string T, .int .i64 z]) ∧ Below w.heap.size w w')) (hz : (z == 0) = b) (hnm : (n == m) = b) :
    Calls Try.prog 5 #[.int .i64 n, .string A, .string B] w fun e w' => e = .returned (.bool true) ∧ Below w.heap.size w w' := by
  have hS := F.size
  have P := hide (fun w => pick_any n 2097152 w h0 h1 (by decide))
  rw [hm] at P
  clear hm
  have hcv := conv1_drew
  go_enter Try.func5, Try.ntmps5
  go_wp2_with fail
  refine (unhide P _).mono ?_
  rintro e w' ⟨rfl, hw⟩
  subst hw
  go_wp2_with fail
  refine (F.put _).mono ?_
  rintro e w1 ⟨rfl, hb1⟩
  go_wp2_with fail
  refine (F.whole _).mono ?_
  rintro e w' ⟨rfl, hw⟩
  subst hw
  go_wp2_with fail
  refine (F.cut _).mono ?_
  rintro e w' ⟨rfl, hw⟩
  subst hw
  go_wp2_with fail
  go_region_with (go_at_call 9; refine (F.drawn _).mono ?_; rintro e w' ⟨rfl, hw⟩; subst hw)
  all_goals
    go_wp2_with fail
    refine (unhide Q _).mono ?_
    rintro e w2 ⟨rfl, hb2⟩
    go_wp2_with fail
    go_ret
    refine ⟨rfl, ?_⟩
    exact (((hb1.alloc hb1.size _).drew).trans (hb2.mono (by simp; have := hb1.size; omega)))
end Go.Proofs.Ytoepcplbpochpaa
