/-
  The first colour that is free, how many colours there are, how many slots: lodge.firstFree, lodge.countColours, lodge.countSlots.
-/
import Derived.Test.YtoepcplbpochpaaDoorCollide
namespace Go.Proofs.YtoepcplbpochpaaDoor
open Go.RowKit

set_option maxRecDepth 100000 in
set_option maxHeartbeats 4000000 in
theorem first_any (t : Nat → Bool) (w : World) : Calls Tryd.prog 125 #[.agg (rowA 12 (setV t))] w fun e w' => e = .returned (.int .i64 (firstF t)) ∧ Below w.heap.size w w' := by
  obtain ⟨w1, hw1, HC1, HL1, hz1⟩ := box_row w 105 12 (setV t)
  have HW := hide hw1
  have HF := hide (show ∀ n, n < 11 → ffFrom t n (11 - n) = if t n = true then ffFrom t (n + 1) (11 - (n + 1)) else n from fun n hn => by
    obtain ⟨m, hm⟩ : ∃ m, 11 - n = m + 1 := ⟨10 - n, by omega⟩
    rw [hm, show 11 - (n + 1) = m by omega]; rfl)
  clear hw1
  go_enter Tryd.func125, Tryd.ntmps125
  go_wp2_with fail
  rw [← unhide HW]
  go_wp2_with fail
  go_loop [3] (fun i' => ∃ n : Nat, n ≤ 11 ∧ i' = .int .i64 n ∧ Hid (ffFrom t n (11 - n) = firstF t)) (fun i' => 11 - (intOf i').toNat)
  case atStart => exact ⟨0, by omega, rfl, rfl⟩
  case round =>
    obtain ⟨n, hn, rfl, HN⟩ := hrel
    by_cases hlt : n < 11
    case neg =>
      obtain rfl : n = 11 := by omega
      go_wp2_with fail
      go_ret
      exact ⟨ret_int (by have := unhide HN; rw [← this]; rfl), unhide HL1⟩
    have c := (unhide HC1).cell (show n < 12 by omega)
    have hni : (n : Int) < 11 := by omega
    unfold setV at c
    obtain ⟨b, hb⟩ : ∃ b, b = t n := ⟨_, rfl⟩
    rw [← hb] at c
    have HB := hide hb
    clear hb
    cases b
    · go_wp2_with fail
      go_ret
      exact ⟨ret_int (by have := unhide HN; rw [← this, unhide HF n hlt, if_neg (by rw [← unhide HB]; decide)]), unhide HL1⟩
    · go_wp2_with fail
      go_round
      case rel => exact ⟨n + 1, by omega, by go_num, by have h := unhide HN; rw [unhide HF n hlt, if_pos (unhide HB).symm] at h; exact h⟩
      case measure => simp [intOf]; omega

/-- The head of a function that takes a program and a row. -/
theorem open_pr (w : World) (P R V : Int) (sl : Value) (n T : Nat) (c : Nat → Value) : ∃ w1, w1 = (w.alloc (.cells #[.int .i64 P, .int .i64 R, .int .i64 V, sl] 24)).alloc (.cells (rowA n c) T) ∧
    Hid (ProgB w1 w.heap.size P R V sl) ∧ Hid (Rowd w1 (w.heap.size + 1) T n c) ∧ Hid (Below w.heap.size w w1) := by
  refine ⟨_, rfl, ?_, two_new _ _ _, ?_⟩
  · exact (progb_alloc w P R V sl).below (below_alloc _ _)
  · exact (below_alloc _ _).alloc (by simp) _

set_option maxRecDepth 100000 in
set_option maxHeartbeats 4000000 in
theorem count_any (P V : Int) (R : Nat) (sl : Value) (c : Nat → Nat) (hR : R ≤ 12) (hc : ∀ r, c r ≤ 12) (w : World) :
    Calls Tryd.prog 97 #[.agg #[.int .i64 P, .int .i64 R, .int .i64 V, sl], .agg (rowA 12 (numV c))] w fun e w' => e = .returned (.int .i64 (cntTo c R)) ∧ Below w.heap.size w w' := by
  obtain ⟨w1, hw1, HP1, HC1, HL1⟩ := open_pr w P R V sl 12 145 (numV c)
  have HW := hide hw1
  have p1 := (unhide HP1).c1
  have HS := hide (show ∀ k, cntTo c (k + 1) = if cntTo c k ≤ c k then c k + 1 else cntTo c k from fun _ => rfl)
  clear hw1
  go_enter Tryd.func97, Tryd.ntmps97
  go_wp2_with fail
  rw [← unhide HW]
  go_wp2_with fail
  go_loop [5, 6] (fun s i' => ∃ k : Nat, k ≤ R ∧ i' = .int .i64 k ∧ ∃ m : Nat, s = .int .i64 m ∧ Hid (m = cntTo c k) ∧ m ≤ 13) (fun _ i' => R - (intOf i').toNat)
  case atStart => exact ⟨0, by omega, rfl, 0, rfl, rfl, by omega⟩
  case round =>
    obtain ⟨k, hk, rfl, m, rfl, HM, hm⟩ := hrel
    by_cases hlt : k < R
    case neg =>
      have hkR : k = R := by omega
      go_wp2_with fail
      go_ret
      exact ⟨ret_int (by rw [unhide HM, hkR]), unhide HL1⟩
    have hki : (k : Int) < 12 := by omega
    have cc := (unhide HC1).cell (show k < 12 by omega)
    unfold numV at cc
    have hck := hc k
    obtain ⟨d, hd⟩ : ∃ d, d = c k := ⟨_, rfl⟩
    rw [← hd] at cc hck
    have HD := hide hd
    clear hd
    by_cases hg : m ≤ d
    · go_wp2_with fail
      go_round
      case rel => exact ⟨k + 1, by omega, by go_num, d + 1, by go_num, hide (by rw [unhide HS, ← unhide HM, ← unhide HD, if_pos hg]), by omega⟩
      case measure => simp [intOf]; omega
    · go_wp2_with fail
      go_round
      case rel => exact ⟨k + 1, by omega, by go_num, m, rfl, hide (by rw [unhide HS, ← unhide HM, ← unhide HD, if_neg hg]), hm⟩
      case measure => simp [intOf]; omega

/-- Twelve homes. -/
def homV (hs : Nat → Bool) (ha : Nat → Nat) : Nat → Value := fun o => if o % 2 = 0 then .bool (hs (o / 2)) else .int .i64 (ha (o / 2))
theorem hom_s {w : World} {B T n : Nat} {hs : Nat → Bool} {ha : Nat → Nat} (h : Rowd w B T n (homV hs ha)) {r : Nat} (hr : r * 2 < n) : w.cell? ⟨B, r * 2, none⟩ = some (.bool (hs r)) := by
  rw [h.cell hr]; unfold homV; rw [if_pos (by omega), show r * 2 / 2 = r by omega]
theorem hom_a {w : World} {B T n : Nat} {hs : Nat → Bool} {ha : Nat → Nat} (h : Rowd w B T n (homV hs ha)) {r : Nat} (hr : r * 2 + 1 < n) : w.cell? ⟨B, r * 2 + 1, none⟩ = some (.int .i64 (ha r)) := by
  rw [h.cell hr]; unfold homV; rw [if_neg (by omega), show (r * 2 + 1) / 2 = r by omega]

set_option maxRecDepth 100000 in
set_option maxHeartbeats 4000000 in
theorem slots_any (V : Int) (P R : Nat) (sl : Value) (hs : Nat → Bool) (ha : Nat → Nat) (hR : R ≤ 12) (hP : P ≤ R) (w : World) :
    Calls Tryd.prog 72 #[.agg #[.int .i64 P, .int .i64 R, .int .i64 V, sl], .agg (rowA 24 (homV hs ha))] w fun e w' => e = .returned (.int .i64 (slTo hs P (R - P))) ∧ Below w.heap.size w w' := by
  obtain ⟨w1, hw1, HP1, HC1, HL1⟩ := open_pr w P R V sl 24 113 (homV hs ha)
  have HW := hide hw1
  have p0 := (unhide HP1).c0
  have p1 := (unhide HP1).c1
  have HS := hide (show ∀ m, slTo hs P (m + 1) = if hs (P + m) = true then P + m + 1 else slTo hs P m from fun _ => rfl)
  clear hw1
  go_enter Tryd.func72, Tryd.ntmps72
  go_wp2_with fail
  rw [← unhide HW]
  go_wp2_with fail
  go_loop [5, 6] (fun s i' => ∃ k : Nat, P ≤ k ∧ k ≤ R ∧ i' = .int .i64 k ∧ ∃ m : Nat, s = .int .i64 m ∧ Hid (m = slTo hs P (k - P)) ∧ m ≤ 13) (fun _ i' => R - (intOf i').toNat)
  case atStart => exact ⟨P, by omega, hP, rfl, P, rfl, hide (by rw [Nat.sub_self]; rfl), by omega⟩
  case round =>
    obtain ⟨k, hPk, hk, rfl, m, rfl, HM, hm⟩ := hrel
    by_cases hlt : k < R
    case neg =>
      have hkR : k = R := by omega
      go_wp2_with fail
      go_ret
      exact ⟨ret_int (by rw [unhide HM, hkR]), unhide HL1⟩
    have hki : (k : Int) < 12 := by omega
    have cc := hom_s (unhide HC1) (r := k) (by omega)
    have HS' := hide (unhide HS (k - P))
    rw [show P + (k - P) = k by omega, show k - P + 1 = k + 1 - P by omega] at HS'
    obtain ⟨d, hd⟩ : ∃ d, d = hs k := ⟨_, rfl⟩
    rw [← hd] at cc HS'
    clear hd
    cases d
    · go_wp2_with fail
      go_round
      case rel => exact ⟨k + 1, by omega, by omega, by go_num, m, rfl, hide (by rw [unhide HS', if_neg (by decide)]; exact unhide HM), hm⟩
      case measure => simp [intOf]; omega
    · go_wp2_with fail
      go_round
      case rel => exact ⟨k + 1, by omega, by omega, by go_num, k + 1, by go_num, hide (by rw [unhide HS', if_pos rfl]), by omega⟩
      case measure => simp [intOf]; omega
end Go.Proofs.YtoepcplbpochpaaDoor
