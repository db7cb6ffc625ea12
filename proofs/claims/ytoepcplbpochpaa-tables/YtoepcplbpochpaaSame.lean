/-
  What lodgelaw.sameRanges answers of two slices that hold one and the same list.
-/
import Derived.Test.YtoepcplbpochpaaIsTable
namespace Go.Proofs.Ytoepcplbpochpaa
open Go.RowKit

set_option maxRecDepth 100000 in
set_option maxHeartbeats 1000000 in
theorem same_any (R : List Rg) (ao bo : Option Addr) (c1 c2 : Nat) (w : World) (hA : Held w ao R) (hB : Held w bo R) (hlen : R.length ≤ 9223372036854775807) :
    Calls Try.prog 13 #[.slice ao R.length c1, .slice bo R.length c2] w fun e w' => e = .returned (.bool true) ∧ Below w.heap.size w w' := by
  go_enter Try.func13, Try.ntmps13
  go_wp2
  go_loopw [5] (fun i wr => ∃ k : Nat, k ≤ R.length ∧ i = .int .i64 k ∧ Below w.heap.size w wr) (fun i _ => R.length - (intOf i).toNat)
  case atStart => exact ⟨0, Nat.zero_le _, rfl, Below.refl _ _⟩
  case round =>
    obtain ⟨k, hk, rfl, hbel⟩ := hrel
    by_cases hlt : k < R.length
    · obtain ⟨b, off, rfl, hb, hl⟩ : ∃ b off, ao = some ⟨b, off, none⟩ ∧ b < w.heap.size ∧ Lie w b off R := by
        rcases hA with h | h
        · subst h; exact absurd hlt (by simp)
        · exact h
      obtain ⟨b2, off2, rfl, hb2, hl2⟩ : ∃ b off, bo = some ⟨b, off, none⟩ ∧ b < w.heap.size ∧ Lie w b off R := by
        rcases hB with h | h
        · subst h; exact absurd hlt (by simp)
        · exact h
      obtain ⟨a0, a1, a2, a3, a4⟩ := (hl k hlt).below hbel hb
      obtain ⟨d0, d1, d2, d3, d4⟩ := (hl2 k hlt).below hbel hb2
      have i3 : (k : Int) < (R.length : Int) := by omega
      go_wp2_with fail
      go_quiet (fail)
      go_wp2
      go_roundw
      case rel => exact ⟨k + 1, by omega, by go_num, below_drewN hbel _⟩
      case measure => simp [intOf]; omega
    · go_wp2
      go_ret
      exact ⟨rfl, hbel⟩
end Go.Proofs.Ytoepcplbpochpaa
