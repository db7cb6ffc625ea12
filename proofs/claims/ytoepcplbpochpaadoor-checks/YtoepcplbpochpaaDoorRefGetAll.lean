/-
  What lodgeref.Get answers at every string and place.
-/
import Derived.Test.YtoepcplbpochpaaDoorRefGetC
import Derived.Test.YtoepcplbpochpaaDoorRefGetD
import Derived.Test.YtoepcplbpochpaaDoorRefGetE
import Derived.Test.YtoepcplbpochpaaDoorRefGetF
namespace Go.Proofs.YtoepcplbpochpaaDoor
open Go.RowKit

theorem refget_any (s : ByteArray) (i : Int) (w : World) (hs : s.size ≤ maxLen) (hi : i ≤ 9223372036854775807) :
    Calls Tryd.prog 92 #[.string s, .int .i64 i] w fun e w' => e = .returned (getR s i) ∧ Below w.heap.size w w' := by
  by_cases h0 : i < 0
  · rw [getR_neg h0]
    go_enter Tryd.func92, Tryd.ntmps92
    go_wp2
    go_ret3
    exact ⟨rfl, Below.refl _ _⟩
  obtain ⟨k, rfl⟩ := Int.eq_ofNat_of_zero_le (by omega : 0 ≤ i)
  by_cases hk : k < s.size
  case neg =>
    rw [getR_none (get_out (by omega))]
    unfold maxLen at hs
    go_enter Tryd.func92, Tryd.ntmps92
    go_wp2
    go_ret3
    exact ⟨rfl, Below.refl _ _⟩
  by_cases a : ((s[k]).toNat : Int) < 128
  · exact refget_a s k w hs hi hk a
  by_cases hk1 : k + 1 < s.size
  case neg => exact refget_a_end s k w hs hi hk a (by omega)
  by_cases b' : ((s[k + 1]).toNat : Int) = 0
  · by_cases hk2 : k + 1 + 1 < s.size
    · exact refget_b_zero s k w hs hi hk2 a b'
    · exact refget_b_zero_end s k w hs hi hk1 a b' (by omega)
  by_cases b : ((s[k + 1]).toNat : Int) < 128
  · exact refget_b s k w hs hi hk1 a b b'
  by_cases hk2 : k + 1 + 1 < s.size
  case neg => exact refget_b_end s k w hs hi hk1 a b (by omega)
  by_cases c' : ((s[k + 2]).toNat : Int) = 0
  · exact refget_c_zero s k w hs hi hk2 a b c'
  by_cases c : ((s[k + 2]).toNat : Int) < 128
  · exact refget_c s k w hs hi hk2 a b c c'
  · exact refget_c_no s k w hs hi hk2 a b c
end Go.Proofs.YtoepcplbpochpaaDoor
