/-
  The walk of lodgekeep.Counted.
-/
import Derived.Test.YtoepcplbpochpaaGet
import Derived.Test.YtoepcplbpochpaaMathThree
import Derived.Test.YtoepcplbpochpaaPick
import Derived.Deep.RegionHeld3
namespace Go.Proofs.Ytoepcplbpochpaa
open Go.RowKit

/-- What the walk must know of a number's string S, of length L: its last byte x, and what Get answers of it in each of its three places. -/
structure CountedFacts (m : Int) (S A B C D : ByteArray) (L : Nat) : Prop where
  size : S.size = L
  put : ∀ w, Calls Try.prog 7 #[.int .i64 m] w fun e w' => e = .returned (.tuple #[.string S, .int .i64 0]) ∧ Below w.heap.size w w'
  whole : ∀ w, Calls Try.prog 9 #[.string (A ++ S ++ B), .int .i64 A.size] w fun e w' => e = .returned (.tuple #[.int .i64 m, .int .i64 ((A.size : Int) + (L : Int)), .int .i64 0]) ∧ w' = w
  cut : ∀ w, Calls Try.prog 9 #[.string C, .int .i64 0] w fun e w' => e = .returned (.tuple #[.int .i64 0, .int .i64 0, .int .i64 14]) ∧ w' = w
  drawn : ∀ w, Calls Try.prog 9 #[.string D, .int .i64 0] w fun e w' => e = .returned (.tuple #[.int .i64 0, .int .i64 0, .int .i64 14]) ∧ w' = w

theorem conv1_drew (w : World) (a : Int) : (convert 37 9 (.slice (some ⟨w.heap.size, 0, none⟩) 1 1)).run Try.prog (w.alloc (.cells #[.int .u8 a] 5)).drew = .ok (.string (strOfNums [a])) (w.alloc (.cells #[.int .u8 a] 5)).drew := by
  refine run_convert_bytes_arg _ 37 5 Try.underlying37 Try.underlying5 w.heap.size 0 1 1 [a] rfl (fun i hi => ?_) 9 Try.underlying9
  have : i = 0 := by omega
  subst this
  simp

set_option maxRecDepth 100000 in
set_option maxHeartbeats 1000000 in
theorem counted_one (n m : Int) (A B S : ByteArray) (w : World) (h0 : -9223372036854775808 ≤ n) (h1 : n ≤ 9223372036854775807) (hm : pickI n 2097152 = m) (hm0 : 0 ≤ m) (hm1 : m < 128)
    (hA : A.size ≤ 140737488351232) (hB : B.size ≤ 140737488351232) (hp : 0 < S.size) (F : CountedFacts m S A B ByteArray.empty (strOfNums [IntKind.u8.wrap (((S[0]).toNat : Int) + 128)] ++ ⟨#[0]⟩) 1)
    (T : ByteArray) (z : Int) (b : Bool) (Q : Hid (∀ w, Calls Try.prog 7 #[.int .i64 n] w fun e w' => e = .returned (.tuple #[.string T, .int .i64 z]) ∧ Below w.heap.size w w')) (hz : (z == 0) = b) (hnm : (n == m) = b) :
    Calls Try.prog 5 #[.int .i64 n, .string A, .string B] w fun e w' => e = .returned (.bool true) ∧ Below w.heap.size w w' := by
  have hS := F.size
  have P := hide (fun w => pick_any n 2097152 w h0 h1 (by decide))
  rw [hm] at P
  clear hm
  have hcv := conv1_drew
  go_enter Try.func5, Try.ntmps5
  go_wp2_with fail
  refine (unhide P _).mono ?_
  rintro e w' ⟨rfl, hw⟩
  subst hw
  go_wp2_with fail
  refine (F.put _).mono ?_
  rintro e w1 ⟨rfl, hb1⟩
  go_wp2_with fail
  refine (F.whole _).mono ?_
  rintro e w' ⟨rfl, hw⟩
  subst hw
  go_wp2_with fail
  refine (F.cut _).mono ?_
  rintro e w' ⟨rfl, hw⟩
  subst hw
  go_wp2_with fail
  go_region_with (go_at_call 9; refine (F.drawn _).mono ?_; rintro e w' ⟨rfl, hw⟩; subst hw)
  all_goals
    go_wp2_with fail
    refine (unhide Q _).mono ?_
    rintro e w2 ⟨rfl, hb2⟩
    go_wp2_with fail
    go_ret
    refine ⟨rfl, ?_⟩
    exact (((hb1.alloc hb1.size _).drew).trans (hb2.mono (by simp; have := hb1.size; omega)))
end Go.Proofs.Ytoepcplbpochpaa
