/-
  What is wrong with the args and the fuel of a run: code.StartError.
-/
import Derived.Test.YtoepcplbpochpaaDoorSmall
namespace Go.Proofs.YtoepcplbpochpaaDoor
open Go.RowKit

/-- The error of args and fuel. -/
def startE (xs : List Int) (n fuel : Int) : Int := if fitsB xs n = false then 11 else if fuel < 0 ∨ 100000 < fuel then 12 else 0

set_option maxRecDepth 100000 in
set_option maxHeartbeats 1000000 in
theorem start_any (xs : List Int) (n fuel : Int) (ao : Option Addr) (cap : Nat) (w : World) (hH : HeldI w ao xs) (hl : xs.length ≤ 9223372036854775807) :
    Calls Tryd.prog 48 #[.slice ao xs.length cap, .int .i64 n, .int .i64 fuel] w fun e w' => e = .returned (.int .i64 (startE xs n fuel)) ∧ w' = w := by
  by_cases hne : (xs.length : Int) = n
  case neg =>
    have he := hide (show startE xs n fuel = 11 by unfold startE fitsB; rw [if_pos]; rw [show ((xs.length : Int) == n) = false by rw [beq_eq_false_iff_ne]; exact hne, Bool.and_false])
    have hne' : ((xs.length : Int) != n) = true := by rw [bne_iff_ne]; exact hne
    go_enter Tryd.func48, Tryd.ntmps48
    go_wp2
    go_ret
    exact ⟨ret_int (unhide he).symm, rfl⟩
  subst hne
  go_enter Tryd.func48, Tryd.ntmps48
  go_wp2
  go_loop [7] (fun i => ∃ k : Nat, k ≤ xs.length ∧ i = .int .i64 k ∧ Hid (valuesTo xs k = true)) (fun i => xs.length - (intOf i).toNat)
  case atStart => exact ⟨0, Nat.zero_le _, rfl, rfl⟩
  case round =>
    obtain ⟨k, hk, rfl, HV⟩ := hrel
    by_cases hlt : k < xs.length
    · obtain ⟨b, off, rfl, hb, hc⟩ : ∃ b off, ao = some ⟨b, off, none⟩ ∧ b < w.heap.size ∧ ∀ i, i < xs.length → w.cell? ⟨b, off + i, none⟩ = some (.int .i64 (nth xs i)) := by
        rcases hH with h | h
        · subst h; exact absurd hlt (by simp)
        · exact h
      have c := hc k hlt
      by_cases hv : 0 ≤ nth xs k ∧ nth xs k ≤ 65535
      · have hn := hide (show valuesTo xs (k + 1) = true by rw [valuesTo_succ, unhide HV]; simp [valueB, hv])
        obtain ⟨v0, v1⟩ := hv
        clear hc
        go_wp2
        go_round
        case rel => exact ⟨k + 1, by omega, by go_num, unhide hn⟩
        case measure => simp [intOf]; omega
      · have hf := hide (show startE xs (xs.length : Int) fuel = 11 by
          unfold startE
          rw [if_pos]
          unfold fitsB
          cases h : valuesTo xs xs.length
          · rfl
          · have := valuesTo_mono xs (show k + 1 ≤ xs.length by omega) h
            rw [valuesTo_succ] at this; simp [valueB] at this; omega)
        clear hc
        rcases (show nth xs k < 0 ∨ (0 ≤ nth xs k ∧ 65535 < nth xs k) by omega) with h | ⟨h, h'⟩
        all_goals
          clear hv
          go_wp2
          go_ret
          exact ⟨ret_int (unhide hf).symm, rfl⟩
    · have hk' : k = xs.length := by omega
      have hf := hide (show fitsB xs (xs.length : Int) = true by unfold fitsB; rw [← hk', unhide HV]; simp)
      clear hk'
      rcases (show fuel < 0 ∨ (0 ≤ fuel ∧ 100000 < fuel) ∨ (0 ≤ fuel ∧ fuel ≤ 100000) by omega) with h | ⟨h, h'⟩ | ⟨h, h'⟩
      case inr.inr =>
        have he := hide (show startE xs (xs.length : Int) fuel = 0 by unfold startE; rw [unhide hf, if_neg (by decide), if_neg (by omega)])
        go_wp2
        go_ret
        exact ⟨ret_int (unhide he).symm, rfl⟩
      all_goals
        have he := hide (show startE xs (xs.length : Int) fuel = 12 by unfold startE; rw [unhide hf, if_neg (by decide), if_pos (by omega)])
        go_wp2
        go_ret
        exact ⟨ret_int (unhide he).symm, rfl⟩
end Go.Proofs.YtoepcplbpochpaaDoor
