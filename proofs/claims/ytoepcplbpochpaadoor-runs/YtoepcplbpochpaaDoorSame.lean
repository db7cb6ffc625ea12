/-
  Lists that hold the same are the same (lodgelaw.sameInts, sameSeen, sameCode, sameResult).
-/
import Derived.Test.YtoepcplbpochpaaDoorSeenAt
import Derived.Deep.RegionHeld3
import Derived.Handy
namespace Go.Proofs.YtoepcplbpochpaaDoor
open Go.RowKit

set_option maxRecDepth 100000 in
set_option maxHeartbeats 2000000 in
theorem sameInts_any (xs : List Int) (ao bo : Option Addr) (c1 c2 : Nat) (w : World) (hA : HeldI w ao xs) (hB : HeldI w bo xs) (hl : xs.length ≤ 9223372036854775807) :
    Calls Tryd.prog 55 #[.slice ao xs.length c1, .slice bo xs.length c2] w fun e w' => e = .returned (.bool true) ∧ Below w.heap.size w w' := by
  have HA := hide hA
  have HB := hide hB
  clear hA hB
  go_enter Tryd.func55, Tryd.ntmps55
  go_wp2
  go_loopw [5] (fun i wr => ∃ k : Nat, k ≤ xs.length ∧ i = .int .i64 k ∧ Hid (Below w.heap.size w wr)) (fun i _ => xs.length - (intOf i).toNat)
  case atStart => exact ⟨0, Nat.zero_le _, rfl, Below.refl _ _⟩
  case round =>
    obtain ⟨k, hk, rfl, HW⟩ := hrel
    by_cases hlt : k < xs.length
    · obtain ⟨b1, o1, rfl, h1, g1⟩ : ∃ b off, ao = some ⟨b, off, none⟩ ∧ b < w.heap.size ∧ ∀ i, i < xs.length → w.cell? ⟨b, off + i, none⟩ = some (.int .i64 (nth xs i)) := by
        rcases unhide HA with h | h
        · subst h; exact absurd hlt (by simp)
        · exact h
      obtain ⟨b2, o2, rfl, h2, g2⟩ : ∃ b off, bo = some ⟨b, off, none⟩ ∧ b < w.heap.size ∧ ∀ i, i < xs.length → w.cell? ⟨b, off + i, none⟩ = some (.int .i64 (nth xs i)) := by
        rcases unhide HB with h | h
        · subst h; exact absurd hlt (by simp)
        · exact h
      obtain ⟨y, hy⟩ : ∃ y, y = nth xs k := ⟨_, rfl⟩
      have d1 : wr.cell? ⟨b1, o1 + k, none⟩ = some (.int .i64 y) := by rw [hy]; exact ((unhide HW).cell (p := ⟨b1, o1 + k, none⟩) h1).trans (g1 k hlt)
      have d2 : wr.cell? ⟨b2, o2 + k, none⟩ = some (.int .i64 y) := by rw [hy]; exact ((unhide HW).cell (p := ⟨b2, o2 + k, none⟩) h2).trans (g2 k hlt)
      have k0 : (0 : Int) ≤ (k : Int) := by omega
      have k1 : (k : Int) < (xs.length : Int) := by omega
      clear g1 g2 hy
      go_wp2_with fail
      go_region_held3 (fun w' => w'.cell? ⟨b1, o1 + k, none⟩ = some (.int .i64 y) ∧ w'.cell? ⟨b2, o2 + k, none⟩ = some (.int .i64 y)) (simp [*]) (fail)
      go_wp2
      go_roundw
      case rel => exact ⟨k + 1, by omega, by go_num, (unhide HW).drew⟩
      case measure => simp [intOf]; omega
    · obtain rfl : k = xs.length := by omega
      go_wp2
      go_ret
      exact ⟨rfl, unhide HW⟩

set_option maxRecDepth 100000 in
set_option maxHeartbeats 2000000 in
theorem sameSeen_any (l : List Sn) (ao bo : Option Addr) (c1 c2 : Nat) (w : World) (hA : HeldS w ao l) (hB : HeldS w bo l) (hl : l.length ≤ 9223372036854775807) :
    Calls Tryd.prog 56 #[.slice ao l.length c1, .slice bo l.length c2] w fun e w' => e = .returned (.bool true) ∧ Below w.heap.size w w' := by
  have HA := hide hA
  have HB := hide hB
  clear hA hB
  go_enter Tryd.func56, Tryd.ntmps56
  go_wp2
  go_loopw [5] (fun i wr => ∃ k : Nat, k ≤ l.length ∧ i = .int .i64 k ∧ Hid (Below w.heap.size w wr)) (fun i _ => l.length - (intOf i).toNat)
  case atStart => exact ⟨0, Nat.zero_le _, rfl, Below.refl _ _⟩
  case round =>
    obtain ⟨k, hk, rfl, HW⟩ := hrel
    by_cases hlt : k < l.length
    · obtain ⟨b1, o1, rfl, h1, g1⟩ : ∃ b off, ao = some ⟨b, off, none⟩ ∧ b < w.heap.size ∧ ∀ i, i < l.length → SeenC w b (off + i * 5) (snAt l i) := by
        rcases unhide HA with h | h
        · subst h; exact absurd hlt (by simp)
        · exact h
      obtain ⟨b2, o2, rfl, h2, g2⟩ : ∃ b off, bo = some ⟨b, off, none⟩ ∧ b < w.heap.size ∧ ∀ i, i < l.length → SeenC w b (off + i * 5) (snAt l i) := by
        rcases unhide HB with h | h
        · subst h; exact absurd hlt (by simp)
        · exact h
      obtain ⟨x, hx⟩ : ∃ x, x = snAt l k := ⟨_, rfl⟩
      have A1 := hide (g1 k hlt)
      have A2 := hide (g2 k hlt)
      rw [← hx] at A1 A2
      have d1 : wr.cell? ⟨b1, o1 + k * 5, none⟩ = some (.int .i64 x.no) := ((unhide HW).cell (p := ⟨b1, o1 + k * 5, none⟩) h1).trans (unhide A1).1
      have d2 : wr.cell? ⟨b2, o2 + k * 5, none⟩ = some (.int .i64 x.no) := ((unhide HW).cell (p := ⟨b2, o2 + k * 5, none⟩) h2).trans (unhide A2).1
      have k0 : (0 : Int) ≤ (k : Int) := by omega
      have k1 : (k : Int) < (l.length : Int) := by omega
      clear g1 g2 hx
      go_wp2_with fail
      go_region_held3 (fun w' => w'.cell? ⟨b1, o1 + k * 5, none⟩ = some (.int .i64 x.no) ∧ w'.cell? ⟨b2, o2 + k * 5, none⟩ = some (.int .i64 x.no)) (simp [*]) (fail)
      have HW2 : Hid (Below w.heap.size w wr.drew) := (unhide HW).drew
      clear d1 d2 HW
      obtain ⟨w4, hw4⟩ : ∃ w4, w4 = wr.drew := ⟨_, rfl⟩
      rw [← hw4] at HW2 ⊢
      clear hw4
      go_wp2_with fail
      go_loopw [6] (fun i wr => ∃ j : Nat, j ≤ 4 ∧ i = .int .i64 j ∧ Hid (Below w.heap.size w wr)) (fun i _ => 4 - (intOf i).toNat)
      case atStart => exact ⟨0, Nat.zero_le _, rfl, unhide HW2⟩
      case round =>
        obtain ⟨j, hj, rfl, HW⟩ := hrel
        by_cases hlj : j < 4
        · obtain ⟨y, hy⟩ : ∃ y, y = x.v j := ⟨_, rfl⟩
          have e1 : wr.cell? ⟨b1, o1 + k * 5 + 1 + j, none⟩ = some (.int .i64 y) := by rw [hy]; exact ((unhide HW).cell (p := ⟨b1, o1 + k * 5 + 1 + j, none⟩) h1).trans ((unhide A1).2 j hlj)
          have e2 : wr.cell? ⟨b2, o2 + k * 5 + 1 + j, none⟩ = some (.int .i64 y) := by rw [hy]; exact ((unhide HW).cell (p := ⟨b2, o2 + k * 5 + 1 + j, none⟩) h2).trans ((unhide A2).2 j hlj)
          have j0 : (0 : Int) ≤ (j : Int) := by omega
          have j4 : (j : Int) < 4 := by omega
          clear hy
          go_wp2_with fail
          go_region_held3 (fun w' => w'.cell? ⟨b1, o1 + k * 5 + 1 + j, none⟩ = some (.int .i64 y) ∧ w'.cell? ⟨b2, o2 + k * 5 + 1 + j, none⟩ = some (.int .i64 y)) (simp [*]) (fail)
          go_wp2
          go_roundw
          case rel => exact ⟨j + 1, by omega, by go_num, (unhide HW).drew⟩
          case measure => simp [intOf]; omega
        · obtain rfl : j = 4 := by omega
          go_wp2
          go_roundw
          case rel => exact ⟨k + 1, by omega, by go_num, unhide HW⟩
          case measure => simp [intOf]; omega
    · obtain rfl : k = l.length := by omega
      go_wp2
      go_ret
      exact ⟨rfl, unhide HW⟩
end Go.Proofs.YtoepcplbpochpaaDoor
