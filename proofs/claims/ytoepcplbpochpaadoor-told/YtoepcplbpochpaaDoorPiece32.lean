/-
  What the document's own unit's run tells of a variable (lodgeref.told), and what is seen of four.
-/
import Derived.Test.YtoepcplbpochpaaDoorPiece21
import Derived.Test.YtoepcplbpochpaaDoorPiece24
import Derived.Test.YtoepcplbpochpaaDoorPiece30
import Derived.Deep.RegionHeld3
import Derived.Deep.QuietTactic
import Derived.BigQuiet
import Derived.Test.YtoepcplbpochpaaDoorPiece8
import Derived.Handy

namespace Go.Proofs.YtoepcplbpochpaaDoor
open Go.RowKit

/-- What the ranges of a unit's table keep to, by its registers and slots. -/
def RgRoom (K S : Nat) (r : Rg) : Prop := (r.k = 0 → 0 ≤ r.a ∧ r.a < (K : Int)) ∧ (r.k = 1 → 0 ≤ r.a ∧ r.a < (S : Int))
theorem RightU.room {K S : Nat} {P V : Int} {L : List In4} {R : List Rg} (h : RightU (K : Int) (S : Int) P V L R) : ∀ i, i < R.length → RgRoom K S (rg R i) := fun i hi => by
  have h1 := isTab_rg h.tab hi
  obtain ⟨g1, g2, g3, g4⟩ := h.rgs i hi
  simp [isRg] at h1
  refine ⟨fun e => ?_, fun e => ?_⟩
  · have := g3 e; omega
  · have := g4 e; omega

set_option maxRecDepth 100000 in
set_option maxHeartbeats 4000000 in
theorem refTold_any (M G H K S : Nat) (s : St) (R : List Rg) (ta : Option Addr) (tc v : Nat) (w : World) (hm : MomB w M G H K S s) (hvc : s.env.vc = 2) (hH : Held w ta R) (hF : ∀ i, i < R.length → RgRoom K S (rg R i)) (hlen : R.length ≤ 1000) :
    Calls Tryd.prog 61 #[.slice ta R.length tc, .int .i64 (v : Int), .pointer (some ⟨M, 0, none⟩)] w fun e w' =>
      e = .returned (.int .i64 (toldE R s.regs s.vars s.at_ v)) ∧ Below w.heap.size w w' := by
  have hM := hm.im
  have hG := hm.ig
  have hHs := hm.ih
  have HM := hide hm
  have HH := hide hH
  have HF := hide hF
  have HVC := hide hvc
  clear hm hH hF hvc
  go_enter Tryd.func61, Tryd.ntmps61
  go_wp2_with fail
  go_loopw [7] (fun j wr => ∃ k : Nat, k ≤ R.length ∧ j = .int .i64 k ∧ Hid (toldE R s.regs s.vars s.at_ v = toldFrom R s.regs s.vars s.at_ v k (R.length - k)) ∧ Hid (Below w.heap.size w wr)) (fun j _ => R.length - (intOf j).toNat)
  case atStart => exact ⟨0, Nat.zero_le _, rfl, rfl, Below.refl _ _⟩
  case round =>
    obtain ⟨k, hk, rfl, HC, HB⟩ := hrel
    have hBs := (unhide HB).size
    by_cases hlt : k < R.length
    case neg =>
      obtain rfl : k = R.length := by omega
      have he := hide (show toldE R s.regs s.vars s.at_ v = -1 by rw [unhide HC, Nat.sub_self]; rfl)
      clear HC
      go_wp2_with fail
      go_ret
      exact ⟨ret_int (unhide he).symm, unhide HB⟩
    obtain ⟨b, off, rfl, hb, hL⟩ : ∃ b off, ta = some ⟨b, off, none⟩ ∧ b < w.heap.size ∧ Lie w b off R := by
      rcases unhide HH with h | h
      · subst h; exact absurd hlt (by simp)
      · exact h
    obtain ⟨r, hr⟩ : ∃ r, r = rg R k := ⟨_, rfl⟩
    have hA := (hL k hlt).below (unhide HB) hb
    have hfit := unhide HF k hlt
    rw [← hr] at hA hfit
    have HR := hide hr
    have HMr := hide ((unhide HM).of_block ((unhide HB).block M hM) ((unhide HB).block G hG) ((unhide HB).block H hHs) (unhide HB).size)
    have hMr : M < wr.heap.size := (unhide HMr).im
    have hGr : G < wr.heap.size := (unhide HMr).ig
    have hHr : H < wr.heap.size := (unhide HMr).ih
    obtain ⟨at0, hat⟩ : ∃ a : Nat, a = s.at_ := ⟨_, rfl⟩
    have c0 : wr.cell? ⟨M, 0, none⟩ = some (.int .i64 (at0 : Int)) := by rw [hat]; exact (unhide HMr).at_
    have c1 := (unhide HMr).rg
    have c2 : wr.cell? ⟨M, 2, none⟩ = some (.slice (some ⟨H, 0, none⟩) S S) := by have h := (unhide HMr).vr; rw [unhide HVC] at h; exact h
    have HAT := hide hat
    have hMiss : Hid (¬ Hits r at0 v → toldE R s.regs s.vars s.at_ v = toldFrom R s.regs s.vars s.at_ v (k + 1) (R.length - (k + 1))) := fun h => by
      rw [unhide HC]; exact told_on hlt (by rw [← unhide HR, ← unhide HAT]; exact h)
    have hHit : Hid (Hits r at0 v → toldE R s.regs s.vars s.at_ v = heldE s.regs s.vars r) := fun h => by
      rw [unhide HC, unhide HR]; exact told_here hlt (by rw [← unhide HR, ← unhide HAT]; exact h)
    obtain ⟨x0, x1, x2, x3, x4⟩ := hA
    clear hr hL hat HC
    obtain ⟨rv, rf, rt, rk, ra⟩ := r
    simp only at x0 x1 x2 x3 x4
    have hbr : b < wr.heap.size := by omega
    go_wp2_with fail
    obtain ⟨w5, hw5⟩ : ∃ w5, w5 = wr.alloc (.cells #[.int .i64 rv, .int .i64 rf, .int .i64 rt, .int .i64 rk, .int .i64 ra] 132) := ⟨_, rfl⟩
    rw [← hw5]
    have q : ∀ o, w5.cell? ⟨wr.heap.size, o, none⟩ = #[Value.int .i64 rv, .int .i64 rf, .int .i64 rt, .int .i64 rk, .int .i64 ra][o]? := fun o => by rw [hw5]; exact World.cell?_alloc_at (hn := rfl) ..
    have q0 : w5.cell? ⟨wr.heap.size, 0, none⟩ = some (.int .i64 rv) := (q 0).trans rfl
    have q1 : w5.cell? ⟨wr.heap.size, 1, none⟩ = some (.int .i64 rf) := (q 1).trans rfl
    have q2 : w5.cell? ⟨wr.heap.size, 2, none⟩ = some (.int .i64 rt) := (q 2).trans rfl
    have q3 : w5.cell? ⟨wr.heap.size, 3, none⟩ = some (.int .i64 rk) := (q 3).trans rfl
    have q4 : w5.cell? ⟨wr.heap.size, 4, none⟩ = some (.int .i64 ra) := (q 4).trans rfl
    have HM5 : Hid (MomB w5 M G H K S s) := by rw [hw5]; exact (unhide HMr).of_block (Below.heap_alloc _ _ _ hMr) (Below.heap_alloc _ _ _ hGr) (Below.heap_alloc _ _ _ hHr) (by simp)
    have HB5 : Hid (Below w.heap.size w w5) := by rw [hw5]; exact (unhide HB).alloc (by omega) _
    have d0 : w5.cell? ⟨M, 0, none⟩ = some (.int .i64 (at0 : Int)) := by rw [unhide HAT]; exact (unhide HM5).at_
    have d1 := (unhide HM5).rg
    have d2 : w5.cell? ⟨M, 2, none⟩ = some (.slice (some ⟨H, 0, none⟩) S S) := by have h := (unhide HM5).vr; rw [unhide HVC] at h; exact h
    clear hw5 q x0 x1 x2 x3 x4 c0 c1 c2
    rcases (show rv ≠ (v : Int) ∨ (rv = (v : Int) ∧ (at0 : Int) < rf) ∨ (rv = (v : Int) ∧ rf ≤ (at0 : Int) ∧ rt ≤ (at0 : Int)) ∨ (rv = (v : Int) ∧ rf ≤ (at0 : Int) ∧ (at0 : Int) < rt) by omega) with g | ⟨g, g1⟩ | ⟨g, g1, g2⟩ | ⟨g, g1, g2⟩
    · have hn := hide (unhide hMiss (fun h => g h.1))
      have g' : (rv == (v : Int)) = false := by rw [beq_eq_false_iff_ne]; exact g
      clear hMiss hHit hfit
      go_quiet (fail)
      go_wp2_with fail
      go_roundw
      case rel => exact ⟨k + 1, by omega, by go_num, unhide hn, below_drewN (unhide HB5) _⟩
      case measure => simp [intOf]; omega
    · subst g
      have hn := hide (unhide hMiss (fun h => by have := h.2.1; simp only at this; omega))
      have g' : decide (rf ≤ (at0 : Int)) = false := by simp; omega
      clear hMiss hHit hfit
      go_quiet (fail)
      go_wp2_with fail
      go_roundw
      case rel => exact ⟨k + 1, by omega, by go_num, unhide hn, below_drewN (unhide HB5) _⟩
      case measure => simp [intOf]; omega
    · subst g
      have hn := hide (unhide hMiss (fun h => by have := h.2.2; simp only at this; omega))
      have g' : decide (rf ≤ (at0 : Int)) = true := by simp; omega
      have g'' : decide ((at0 : Int) < rt) = false := by simp; omega
      clear hMiss hHit hfit
      go_quiet (fail)
      go_wp2_with fail
      go_roundw
      case rel => exact ⟨k + 1, by omega, by go_num, unhide hn, below_drewN (unhide HB5) _⟩
      case measure => simp [intOf]; omega
    · subst g
      have hn := unhide hHit ⟨rfl, g1, g2⟩
      have g' : decide (rf ≤ (at0 : Int)) = true := by simp; omega
      have g'' : decide ((at0 : Int) < rt) = true := by simp; omega
      clear hMiss hHit
      go_quiet (fail)
      by_cases h0 : rk = 0
      · subst h0
        obtain ⟨a0, a1⟩ := hfit.1 rfl
        simp only at a0 a1
        obtain ⟨an, rfl⟩ : ∃ an : Nat, ra = an := ⟨ra.toNat, by omega⟩
        obtain ⟨y, hy⟩ : ∃ y, y = s.regs an := ⟨_, rfl⟩
        have ca : w5.cell? ⟨G, an, none⟩ = some (.int .i64 y) := by rw [hy]; exact (unhide HM5).regs an (by omega)
        have he := hide (show toldE R s.regs s.vars s.at_ v = y by rw [hn, hy]; rfl)
        clear hy hn hfit
        go_wp2_with fail
        go_region_held3 (fun w' => w'.cell? ⟨wr.heap.size, 4, none⟩ = some (.int .i64 (an : Int)) ∧ w'.cell? ⟨M, 1, none⟩ = some (.slice (some ⟨G, 0, none⟩) K K) ∧ w'.cell? ⟨G, an, none⟩ = some (.int .i64 y)) (simp [*]) (fail)
        go_wp2_with fail
        go_ret
        exact ⟨ret_int (unhide he).symm, (below_drewN (unhide HB5) _).drew⟩
      by_cases h1 : rk = 1
      · subst h1
        obtain ⟨a0, a1⟩ := hfit.2 rfl
        simp only at a0 a1
        obtain ⟨an, rfl⟩ : ∃ an : Nat, ra = an := ⟨ra.toNat, by omega⟩
        obtain ⟨y, hy⟩ : ∃ y, y = s.vars an := ⟨_, rfl⟩
        have ca : w5.cell? ⟨H, an, none⟩ = some (.int .i64 y) := by rw [hy]; exact (unhide HM5).vars an (by omega)
        have he := hide (show toldE R s.regs s.vars s.at_ v = y by rw [hn, hy]; rfl)
        clear hy hn hfit
        go_wp2_with fail
        go_region_held3 (fun w' => w'.cell? ⟨wr.heap.size, 4, none⟩ = some (.int .i64 (an : Int)) ∧ w'.cell? ⟨M, 2, none⟩ = some (.slice (some ⟨H, 0, none⟩) S S) ∧ w'.cell? ⟨H, an, none⟩ = some (.int .i64 y)) (simp [*]) (fail)
        go_wp2_with fail
        go_ret
        exact ⟨ret_int (unhide he).symm, (below_drewN (unhide HB5) _).drew⟩
      · have e0 : (rk == 0) = false := by rw [beq_eq_false_iff_ne]; exact h0
        have e1 : (rk == 1) = false := by rw [beq_eq_false_iff_ne]; exact h1
        have he := hide (show toldE R s.regs s.vars s.at_ v = ra by rw [hn]; unfold heldE; rw [if_neg h0, if_neg h1])
        clear hn hfit
        go_wp2_with fail
        go_ret
        exact ⟨ret_int (unhide he).symm, below_drewN (unhide HB5) _⟩

set_option maxRecDepth 100000 in
set_option maxHeartbeats 4000000 in
theorem seen4_any (m x0 x1 x2 x3 : Int) (g off cap : Nat) (w : World) (c0 : w.cell? ⟨g, off, none⟩ = some (.int .i64 x0)) (c1 : w.cell? ⟨g, off + 1, none⟩ = some (.int .i64 x1)) (c2 : w.cell? ⟨g, off + 2, none⟩ = some (.int .i64 x2)) (c3 : w.cell? ⟨g, off + 3, none⟩ = some (.int .i64 x3)) :
    Calls Tryd.prog 53 #[.int .i64 m, .slice (some ⟨g, off, none⟩) 4 cap] w fun e w' => e = .returned (.agg #[.int .i64 m, .int .i64 x0, .int .i64 x1, .int .i64 x2, .int .i64 x3]) ∧ Below w.heap.size w w' := by
  have hg : g < w.heap.size := World.block_lt_of_cell? w ⟨g, off, none⟩ c0
  go_enter Tryd.func53, Tryd.ntmps53
  go_wp2
  refine wp_loop_rounds 5 ?_
  iterate 4 (rw [rounds_succ]; go_wp2)
  rw [rounds_succ]
  go_wp2
  go_returns
  exact ⟨rfl, ((Below.refl _ _).alloc (Nat.le_refl _) _).alloc (by simp) _⟩
end Go.Proofs.YtoepcplbpochpaaDoor

/-
  Lists that hold the same are the same (lodgelaw.sameInts, sameSeen, sameCode, sameResult).
-/
namespace Go.Proofs.YtoepcplbpochpaaDoor
open Go.RowKit

set_option maxRecDepth 100000 in
set_option maxHeartbeats 2000000 in
theorem sameInts_any (xs : List Int) (ao bo : Option Addr) (c1 c2 : Nat) (w : World) (hA : HeldI w ao xs) (hB : HeldI w bo xs) (hl : xs.length ≤ 9223372036854775807) :
    Calls Tryd.prog 55 #[.slice ao xs.length c1, .slice bo xs.length c2] w fun e w' => e = .returned (.bool true) ∧ Below w.heap.size w w' := by
  have HA := hide hA
  have HB := hide hB
  clear hA hB
  go_enter Tryd.func55, Tryd.ntmps55
  go_wp2
  go_loopw [5] (fun i wr => ∃ k : Nat, k ≤ xs.length ∧ i = .int .i64 k ∧ Hid (Below w.heap.size w wr)) (fun i _ => xs.length - (intOf i).toNat)
  case atStart => exact ⟨0, Nat.zero_le _, rfl, Below.refl _ _⟩
  case round =>
    obtain ⟨k, hk, rfl, HW⟩ := hrel
    by_cases hlt : k < xs.length
    · obtain ⟨b1, o1, rfl, h1, g1⟩ : ∃ b off, ao = some ⟨b, off, none⟩ ∧ b < w.heap.size ∧ ∀ i, i < xs.length → w.cell? ⟨b, off + i, none⟩ = some (.int .i64 (nth xs i)) := by
        rcases unhide HA with h | h
        · subst h; exact absurd hlt (by simp)
        · exact h
      obtain ⟨b2, o2, rfl, h2, g2⟩ : ∃ b off, bo = some ⟨b, off, none⟩ ∧ b < w.heap.size ∧ ∀ i, i < xs.length → w.cell? ⟨b, off + i, none⟩ = some (.int .i64 (nth xs i)) := by
        rcases unhide HB with h | h
        · subst h; exact absurd hlt (by simp)
        · exact h
      obtain ⟨y, hy⟩ : ∃ y, y = nth xs k := ⟨_, rfl⟩
      have d1 : wr.cell? ⟨b1, o1 + k, none⟩ = some (.int .i64 y) := by rw [hy]; exact ((unhide HW).cell (p := ⟨b1, o1 + k, none⟩) h1).trans (g1 k hlt)
      have d2 : wr.cell? ⟨b2, o2 + k, none⟩ = some (.int .i64 y) := by rw [hy]; exact ((unhide HW).cell (p := ⟨b2, o2 + k, none⟩) h2).trans (g2 k hlt)
      have k0 : (0 : Int) ≤ (k : Int) := by omega
      have k1 : (k : Int) < (xs.length : Int) := by omega
      clear g1 g2 hy
      go_wp2_with fail
      go_region_held3 (fun w' => w'.cell? ⟨b1, o1 + k, none⟩ = some (.int .i64 y) ∧ w'.cell? ⟨b2, o2 + k, none⟩ = some (.int .i64 y)) (simp [*]) (fail)
      go_wp2
      go_roundw
      case rel => exact ⟨k + 1, by omega, by go_num, (unhide HW).drew⟩
      case measure => simp [intOf]; omega
    · obtain rfl : k = xs.length := by omega
      go_wp2
      go_ret
      exact ⟨rfl, unhide HW⟩

set_option maxRecDepth 100000 in
set_option maxHeartbeats 2000000 in
theorem sameSeen_any (l : List Sn) (ao bo : Option Addr) (c1 c2 : Nat) (w : World) (hA : HeldS w ao l) (hB : HeldS w bo l) (hl : l.length ≤ 9223372036854775807) :
    Calls Tryd.prog 56 #[.slice ao l.length c1, .slice bo l.length c2] w fun e w' => e = .returned (.bool true) ∧ Below w.heap.size w w' := by
  have HA := hide hA
  have HB := hide hB
  clear hA hB
  go_enter Tryd.func56, Tryd.ntmps56
  go_wp2
  go_loopw [5] (fun i wr => ∃ k : Nat, k ≤ l.length ∧ i = .int .i64 k ∧ Hid (Below w.heap.size w wr)) (fun i _ => l.length - (intOf i).toNat)
  case atStart => exact ⟨0, Nat.zero_le _, rfl, Below.refl _ _⟩
  case round =>
    obtain ⟨k, hk, rfl, HW⟩ := hrel
    by_cases hlt : k < l.length
    · obtain ⟨b1, o1, rfl, h1, g1⟩ : ∃ b off, ao = some ⟨b, off, none⟩ ∧ b < w.heap.size ∧ ∀ i, i < l.length → SeenC w b (off + i * 5) (snAt l i) := by
        rcases unhide HA with h | h
        · subst h; exact absurd hlt (by simp)
        · exact h
      obtain ⟨b2, o2, rfl, h2, g2⟩ : ∃ b off, bo = some ⟨b, off, none⟩ ∧ b < w.heap.size ∧ ∀ i, i < l.length → SeenC w b (off + i * 5) (snAt l i) := by
        rcases unhide HB with h | h
        · subst h; exact absurd hlt (by simp)
        · exact h
      obtain ⟨x, hx⟩ : ∃ x, x = snAt l k := ⟨_, rfl⟩
      have A1 := hide (g1 k hlt)
      have A2 := hide (g2 k hlt)
      rw [← hx] at A1 A2
      have d1 : wr.cell? ⟨b1, o1 + k * 5, none⟩ = some (.int .i64 x.no) := ((unhide HW).cell (p := ⟨b1, o1 + k * 5, none⟩) h1).trans (unhide A1).1
      have d2 : wr.cell? ⟨b2, o2 + k * 5, none⟩ = some (.int .i64 x.no) := ((unhide HW).cell (p := ⟨b2, o2 + k * 5, none⟩) h2).trans (unhide A2).1
      have k0 : (0 : Int) ≤ (k : Int) := by omega
      have k1 : (k : Int) < (l.length : Int) := by omega
      clear g1 g2 hx
      go_wp2_with fail
      go_region_held3 (fun w' => w'.cell? ⟨b1, o1 + k * 5, none⟩ = some (.int .i64 x.no) ∧ w'.cell? ⟨b2, o2 + k * 5, none⟩ = some (.int .i64 x.no)) (simp [*]) (fail)
      have HW2 : Hid (Below w.heap.size w wr.drew) := (unhide HW).drew
      clear d1 d2 HW
      obtain ⟨w4, hw4⟩ : ∃ w4, w4 = wr.drew := ⟨_, rfl⟩
      rw [← hw4] at HW2 ⊢
      clear hw4
      go_wp2_with fail
      go_loopw [6] (fun i wr => ∃ j : Nat, j ≤ 4 ∧ i = .int .i64 j ∧ Hid (Below w.heap.size w wr)) (fun i _ => 4 - (intOf i).toNat)
      case atStart => exact ⟨0, Nat.zero_le _, rfl, unhide HW2⟩
      case round =>
        obtain ⟨j, hj, rfl, HW⟩ := hrel
        by_cases hlj : j < 4
        · obtain ⟨y, hy⟩ : ∃ y, y = x.v j := ⟨_, rfl⟩
          have e1 : wr.cell? ⟨b1, o1 + k * 5 + 1 + j, none⟩ = some (.int .i64 y) := by rw [hy]; exact ((unhide HW).cell (p := ⟨b1, o1 + k * 5 + 1 + j, none⟩) h1).trans ((unhide A1).2 j hlj)
          have e2 : wr.cell? ⟨b2, o2 + k * 5 + 1 + j, none⟩ = some (.int .i64 y) := by rw [hy]; exact ((unhide HW).cell (p := ⟨b2, o2 + k * 5 + 1 + j, none⟩) h2).trans ((unhide A2).2 j hlj)
          have j0 : (0 : Int) ≤ (j : Int) := by omega
          have j4 : (j : Int) < 4 := by omega
          clear hy
          go_wp2_with fail
          go_region_held3 (fun w' => w'.cell? ⟨b1, o1 + k * 5 + 1 + j, none⟩ = some (.int .i64 y) ∧ w'.cell? ⟨b2, o2 + k * 5 + 1 + j, none⟩ = some (.int .i64 y)) (simp [*]) (fail)
          go_wp2
          go_roundw
          case rel => exact ⟨j + 1, by omega, by go_num, (unhide HW).drew⟩
          case measure => simp [intOf]; omega
        · obtain rfl : j = 4 := by omega
          go_wp2
          go_roundw
          case rel => exact ⟨k + 1, by omega, by go_num, unhide HW⟩
          case measure => simp [intOf]; omega
    · obtain rfl : k = l.length := by omega
      go_wp2
      go_ret
      exact ⟨rfl, unhide HW⟩
end Go.Proofs.YtoepcplbpochpaaDoor

/-
  Code that is the same, and results that are the same (lodgelaw.sameCode, sameResult); what a run owns is held.
-/
namespace Go.Proofs.YtoepcplbpochpaaDoor
open Go.RowKit

set_option maxRecDepth 100000 in
set_option maxHeartbeats 1000000 in
theorem sameCode_any (L : List In4) (ao bo : Option Addr) (c1 c2 : Nat) (w : World) (hA : HeldIns w ao L) (hB : HeldIns w bo L) (hlen : L.length ≤ 9223372036854775807) :
    Calls Tryd.prog 29 #[.slice ao L.length c1, .slice bo L.length c2] w fun e w' => e = .returned (.bool true) ∧ Below w.heap.size w w' := by
  go_enter Tryd.func29, Tryd.ntmps29
  go_wp2
  go_loopw [5] (fun i wr => ∃ k : Nat, k ≤ L.length ∧ i = .int .i64 k ∧ Below w.heap.size w wr) (fun i _ => L.length - (intOf i).toNat)
  case atStart => exact ⟨0, Nat.zero_le _, rfl, Below.refl _ _⟩
  case round =>
    obtain ⟨k, hk, rfl, hbel⟩ := hrel
    by_cases hlt : k < L.length
    · obtain ⟨b, off, rfl, hb, hl⟩ : ∃ b off, ao = some ⟨b, off, none⟩ ∧ b < w.heap.size ∧ LieI w b off L := by
        rcases hA with h | h
        · subst h; exact absurd hlt (by simp)
        · exact h
      obtain ⟨b2, off2, rfl, hb2, hl2⟩ : ∃ b off, bo = some ⟨b, off, none⟩ ∧ b < w.heap.size ∧ LieI w b off L := by
        rcases hB with h | h
        · subst h; exact absurd hlt (by simp)
        · exact h
      obtain ⟨a0, a1, a2, a3⟩ := (hl k hlt).below hbel hb
      obtain ⟨d0, d1, d2, d3⟩ := (hl2 k hlt).below hbel hb2
      have i3 : (k : Int) < (L.length : Int) := by omega
      go_wp2_with fail
      go_quiet (fail)
      go_wp2
      go_roundw
      case rel => exact ⟨k + 1, by omega, by go_num, below_drewN hbel _⟩
      case measure => simp [intOf]; omega
    · go_wp2
      go_ret
      exact ⟨rfl, hbel⟩

set_option maxRecDepth 100000 in
set_option maxHeartbeats 2000000 in
theorem sameResult_any (s : St) (b1 b2 : Nat) (v1 v2 : Value) (w : World) (h1 : ResOf w b1 v1 s) (h2 : ResOf w b2 v2 s) :
    Calls Tryd.prog 19 #[v1, v2] w fun e w' => e = .returned (.bool true) ∧ Below w.heap.size w w' := by
  obtain ⟨vo, vs, rfl, o1, s1⟩ := h1
  obtain ⟨vo', vs', rfl, o2, s2⟩ := h2
  obtain ⟨ao, co, rfl, hA, hl⟩ := own_heldI o1
  obtain ⟨bo, do', rfl, hB, _⟩ := own_heldI o2
  obtain ⟨as', cs, rfl, hC, hm⟩ := own_heldS s1
  obtain ⟨bs, ds, rfl, hD, _⟩ := own_heldS s2
  unfold maxLen at hl hm
  have K1 := hide (fun w (hA : HeldI w ao s.outs) (hB : HeldI w bo s.outs) => sameInts_any s.outs ao bo co do' w hA hB (by omega))
  have K2 := hide (fun w (hA : HeldS w as' s.stops) (hB : HeldS w bs s.stops) => sameSeen_any s.stops as' bs cs ds w hA hB (by omega))
  have HA := hide hA
  have HB := hide hB
  have HC := hide hC
  have HD := hide hD
  clear hA hB hC hD o1 o2 s1 s2
  go_enter Tryd.func19, Tryd.ntmps19
  go_wp2_with fail
  obtain ⟨w1, hw1⟩ : ∃ w1, w1 = (w.alloc (.cells #[.int .i64 s.kind, .int .i64 s.val, .int .i64 (s.steps : Int), .slice ao s.outs.length co, .slice as' s.stops.length cs] 37)).alloc (.cells #[.int .i64 s.kind, .int .i64 s.val, .int .i64 (s.steps : Int), .slice bo s.outs.length do', .slice bs s.stops.length ds] 37) := ⟨_, rfl⟩
  rw [← hw1]
  have hb1 : Below w.heap.size w w1 := by rw [hw1]; exact ((Below.refl _ _).alloc (Nat.le_refl _) _).alloc (by simp) _
  have hz1 : w1.heap.size = w.heap.size + 2 := by rw [hw1]; simp
  have p4 : w1.cell? ⟨w.heap.size, 4, none⟩ = some (.slice as' s.stops.length cs) := by
    rw [hw1, World.cell?_alloc_past (hn := by simp), World.cell?_alloc_at (hn := rfl)]; rfl
  have q4 : w1.cell? ⟨w.heap.size + 1, 4, none⟩ = some (.slice bs s.stops.length ds) := by
    rw [hw1, World.cell?_alloc_at (hn := by simp)]; rfl
  clear hw1
  refine (unhide K1 w1 ((unhide HA).below hb1) ((unhide HB).below hb1)).mono ?_
  rintro e w2 ⟨rfl, hb2⟩
  have p4' := (hb2.cell (p := ⟨w.heap.size, 4, none⟩) (show w.heap.size < w1.heap.size by omega)).trans p4
  have q4' := (hb2.cell (p := ⟨w.heap.size + 1, 4, none⟩) (show w.heap.size + 1 < w1.heap.size by omega)).trans q4
  have HB2 : Hid (Below w.heap.size w w2) := hb1.trans (hb2.mono (by omega))
  clear hb1 hb2 p4 q4
  go_wp2_with fail
  refine (unhide K2 w2 ((unhide HC).below (unhide HB2)) ((unhide HD).below (unhide HB2))).mono ?_
  rintro e w3 ⟨rfl, hb3⟩
  have HB3 : Hid (Below w.heap.size w w3) := (unhide HB2).trans (hb3.mono (unhide HB2).size)
  clear hb3
  go_wp2_with fail
  go_ret
  exact ⟨rfl, unhide HB3⟩
end Go.Proofs.YtoepcplbpochpaaDoor
