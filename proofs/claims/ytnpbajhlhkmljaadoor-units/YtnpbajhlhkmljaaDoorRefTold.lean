/-
  What the document's own unit's run tells of a variable (lodgeref.told), and what is seen of four.
-/
import Derived.Test.YtnpbajhlhkmljaaDoorAsk
import Derived.Test.YtnpbajhlhkmljaaDoorPass
import Derived.Test.YtnpbajhlhkmljaaDoorFilled
import Derived.Deep.RegionHeld3
import Derived.Deep.QuietTactic
import Derived.BigQuiet
namespace Go.Proofs.YtnpbajhlhkmljaaDoor
open Go.RowKit

/-- What the ranges of a unit's table keep to, by its registers and slots. -/
def RgRoom (K S : Nat) (r : Rg) : Prop := (r.k = 0 → 0 ≤ r.a ∧ r.a < (K : Int)) ∧ (r.k = 1 → 0 ≤ r.a ∧ r.a < (S : Int))
theorem RightU.room {K S : Nat} {P V : Int} {L : List In4} {R : List Rg} (h : RightU (K : Int) (S : Int) P V L R) : ∀ i, i < R.length → RgRoom K S (rg R i) := fun i hi => by
  have h1 := isTab_rg h.tab hi
  obtain ⟨g1, g2, g3, g4⟩ := h.rgs i hi
  simp [isRg] at h1
  refine ⟨fun e => ?_, fun e => ?_⟩
  · have := g3 e; omega
  · have := g4 e; omega

set_option maxRecDepth 100000 in
set_option maxHeartbeats 4000000 in
theorem refTold_any (M G H K S : Nat) (s : St) (R : List Rg) (ta : Option Addr) (tc v : Nat) (w : World) (hm : MomB w M G H K S s) (hvc : s.env.vc = 2) (hH : Held w ta R) (hF : ∀ i, i < R.length → RgRoom K S (rg R i)) (hlen : R.length ≤ 1000) :
    Calls Tryd.prog 41 #[.slice ta R.length tc, .int .i64 (v : Int), .pointer (some ⟨M, 0, none⟩)] w fun e w' =>
      e = .returned (.int .i64 (toldE R s.regs s.vars s.at_ v)) ∧ Below w.heap.size w w' := by
  have hM := hm.im
  have hG := hm.ig
  have hHs := hm.ih
  have HM := hide hm
  have HH := hide hH
  have HF := hide hF
  have HVC := hide hvc
  clear hm hH hF hvc
  go_enter Tryd.func41, Tryd.ntmps41
  go_wp2_with fail
  go_loopw [7] (fun j wr => ∃ k : Nat, k ≤ R.length ∧ j = .int .i64 k ∧ Hid (toldE R s.regs s.vars s.at_ v = toldFrom R s.regs s.vars s.at_ v k (R.length - k)) ∧ Hid (Below w.heap.size w wr)) (fun j _ => R.length - (intOf j).toNat)
  case atStart => exact ⟨0, Nat.zero_le _, rfl, rfl, Below.refl _ _⟩
  case round =>
    obtain ⟨k, hk, rfl, HC, HB⟩ := hrel
    have hBs := (unhide HB).size
    by_cases hlt : k < R.length
    case neg =>
      obtain rfl : k = R.length := by omega
      have he := hide (show toldE R s.regs s.vars s.at_ v = -1 by rw [unhide HC, Nat.sub_self]; rfl)
      clear HC
      go_wp2_with fail
      go_ret
      exact ⟨ret_int (unhide he).symm, unhide HB⟩
    obtain ⟨b, off, rfl, hb, hL⟩ : ∃ b off, ta = some ⟨b, off, none⟩ ∧ b < w.heap.size ∧ Lie w b off R := by
      rcases unhide HH with h | h
      · subst h; exact absurd hlt (by simp)
      · exact h
    obtain ⟨r, hr⟩ : ∃ r, r = rg R k := ⟨_, rfl⟩
    have hA := (hL k hlt).below (unhide HB) hb
    have hfit := unhide HF k hlt
    rw [← hr] at hA hfit
    have HR := hide hr
    have HMr := hide ((unhide HM).of_block ((unhide HB).block M hM) ((unhide HB).block G hG) ((unhide HB).block H hHs) (unhide HB).size)
    have hMr : M < wr.heap.size := (unhide HMr).im
    have hGr : G < wr.heap.size := (unhide HMr).ig
    have hHr : H < wr.heap.size := (unhide HMr).ih
    obtain ⟨at0, hat⟩ : ∃ a : Nat, a = s.at_ := ⟨_, rfl⟩
    have c0 : wr.cell? ⟨M, 0, none⟩ = some (.int .i64 (at0 : Int)) := by rw [hat]; exact (unhide HMr).at_
    have c1 := (unhide HMr).rg
    have c2 : wr.cell? ⟨M, 2, none⟩ = some (.slice (some ⟨H, 0, none⟩) S S) := by have h := (unhide HMr).vr; rw [unhide HVC] at h; exact h
    have HAT := hide hat
    have hMiss : Hid (¬ Hits r at0 v → toldE R s.regs s.vars s.at_ v = toldFrom R s.regs s.vars s.at_ v (k + 1) (R.length - (k + 1))) := fun h => by
      rw [unhide HC]; exact told_on hlt (by rw [← unhide HR, ← unhide HAT]; exact h)
    have hHit : Hid (Hits r at0 v → toldE R s.regs s.vars s.at_ v = heldE s.regs s.vars r) := fun h => by
      rw [unhide HC, unhide HR]; exact told_here hlt (by rw [← unhide HR, ← unhide HAT]; exact h)
    obtain ⟨x0, x1, x2, x3, x4⟩ := hA
    clear hr hL hat HC
    obtain ⟨rv, rf, rt, rk, ra⟩ := r
    simp only at x0 x1 x2 x3 x4
    have hbr : b < wr.heap.size := by omega
    go_wp2_with fail
    obtain ⟨w5, hw5⟩ : ∃ w5, w5 = wr.alloc (.cells #[.int .i64 rv, .int .i64 rf, .int .i64 rt, .int .i64 rk, .int .i64 ra] 89) := ⟨_, rfl⟩
    rw [← hw5]
    have q : ∀ o, w5.cell? ⟨wr.heap.size, o, none⟩ = #[Value.int .i64 rv, .int .i64 rf, .int .i64 rt, .int .i64 rk, .int .i64 ra][o]? := fun o => by rw [hw5]; exact World.cell?_alloc_at (hn := rfl) ..
    have q0 : w5.cell? ⟨wr.heap.size, 0, none⟩ = some (.int .i64 rv) := (q 0).trans rfl
    have q1 : w5.cell? ⟨wr.heap.size, 1, none⟩ = some (.int .i64 rf) := (q 1).trans rfl
    have q2 : w5.cell? ⟨wr.heap.size, 2, none⟩ = some (.int .i64 rt) := (q 2).trans rfl
    have q3 : w5.cell? ⟨wr.heap.size, 3, none⟩ = some (.int .i64 rk) := (q 3).trans rfl
    have q4 : w5.cell? ⟨wr.heap.size, 4, none⟩ = some (.int .i64 ra) := (q 4).trans rfl
    have HM5 : Hid (MomB w5 M G H K S s) := by rw [hw5]; exact (unhide HMr).of_block (Below.heap_alloc _ _ _ hMr) (Below.heap_alloc _ _ _ hGr) (Below.heap_alloc _ _ _ hHr) (by simp)
    have HB5 : Hid (Below w.heap.size w w5) := by rw [hw5]; exact (unhide HB).alloc (by omega) _
    have d0 : w5.cell? ⟨M, 0, none⟩ = some (.int .i64 (at0 : Int)) := by rw [unhide HAT]; exact (unhide HM5).at_
    have d1 := (unhide HM5).rg
    have d2 : w5.cell? ⟨M, 2, none⟩ = some (.slice (some ⟨H, 0, none⟩) S S) := by have h := (unhide HM5).vr; rw [unhide HVC] at h; exact h
    clear hw5 q x0 x1 x2 x3 x4 c0 c1 c2
    rcases (show rv ≠ (v : Int) ∨ (rv = (v : Int) ∧ (at0 : Int) < rf) ∨ (rv = (v : Int) ∧ rf ≤ (at0 : Int) ∧ rt ≤ (at0 : Int)) ∨ (rv = (v : Int) ∧ rf ≤ (at0 : Int) ∧ (at0 : Int) < rt) by omega) with g | ⟨g, g1⟩ | ⟨g, g1, g2⟩ | ⟨g, g1, g2⟩
    · have hn := hide (unhide hMiss (fun h => g h.1))
      have g' : (rv == (v : Int)) = false := by rw [beq_eq_false_iff_ne]; exact g
      clear hMiss hHit hfit
      go_quiet (fail)
      go_wp2_with fail
      go_roundw
      case rel => exact ⟨k + 1, by omega, by go_num, unhide hn, below_drewN (unhide HB5) _⟩
      case measure => simp [intOf]; omega
    · subst g
      have hn := hide (unhide hMiss (fun h => by have := h.2.1; simp only at this; omega))
      have g' : decide (rf ≤ (at0 : Int)) = false := by simp; omega
      clear hMiss hHit hfit
      go_quiet (fail)
      go_wp2_with fail
      go_roundw
      case rel => exact ⟨k + 1, by omega, by go_num, unhide hn, below_drewN (unhide HB5) _⟩
      case measure => simp [intOf]; omega
    · subst g
      have hn := hide (unhide hMiss (fun h => by have := h.2.2; simp only at this; omega))
      have g' : decide (rf ≤ (at0 : Int)) = true := by simp; omega
      have g'' : decide ((at0 : Int) < rt) = false := by simp; omega
      clear hMiss hHit hfit
      go_quiet (fail)
      go_wp2_with fail
      go_roundw
      case rel => exact ⟨k + 1, by omega, by go_num, unhide hn, below_drewN (unhide HB5) _⟩
      case measure => simp [intOf]; omega
    · subst g
      have hn := unhide hHit ⟨rfl, g1, g2⟩
      have g' : decide (rf ≤ (at0 : Int)) = true := by simp; omega
      have g'' : decide ((at0 : Int) < rt) = true := by simp; omega
      clear hMiss hHit
      go_quiet (fail)
      by_cases h0 : rk = 0
      · subst h0
        obtain ⟨a0, a1⟩ := hfit.1 rfl
        simp only at a0 a1
        obtain ⟨an, rfl⟩ : ∃ an : Nat, ra = an := ⟨ra.toNat, by omega⟩
        obtain ⟨y, hy⟩ : ∃ y, y = s.regs an := ⟨_, rfl⟩
        have ca : w5.cell? ⟨G, an, none⟩ = some (.int .i64 y) := by rw [hy]; exact (unhide HM5).regs an (by omega)
        have he := hide (show toldE R s.regs s.vars s.at_ v = y by rw [hn, hy]; rfl)
        clear hy hn hfit
        go_wp2_with fail
        go_region_held3 (fun w' => w'.cell? ⟨wr.heap.size, 4, none⟩ = some (.int .i64 (an : Int)) ∧ w'.cell? ⟨M, 1, none⟩ = some (.slice (some ⟨G, 0, none⟩) K K) ∧ w'.cell? ⟨G, an, none⟩ = some (.int .i64 y)) (simp [*]) (fail)
        go_wp2_with fail
        go_ret
        exact ⟨ret_int (unhide he).symm, (below_drewN (unhide HB5) _).drew⟩
      by_cases h1 : rk = 1
      · subst h1
        obtain ⟨a0, a1⟩ := hfit.2 rfl
        simp only at a0 a1
        obtain ⟨an, rfl⟩ : ∃ an : Nat, ra = an := ⟨ra.toNat, by omega⟩
        obtain ⟨y, hy⟩ : ∃ y, y = s.vars an := ⟨_, rfl⟩
        have ca : w5.cell? ⟨H, an, none⟩ = some (.int .i64 y) := by rw [hy]; exact (unhide HM5).vars an (by omega)
        have he := hide (show toldE R s.regs s.vars s.at_ v = y by rw [hn, hy]; rfl)
        clear hy hn hfit
        go_wp2_with fail
        go_region_held3 (fun w' => w'.cell? ⟨wr.heap.size, 4, none⟩ = some (.int .i64 (an : Int)) ∧ w'.cell? ⟨M, 2, none⟩ = some (.slice (some ⟨H, 0, none⟩) S S) ∧ w'.cell? ⟨H, an, none⟩ = some (.int .i64 y)) (simp [*]) (fail)
        go_wp2_with fail
        go_ret
        exact ⟨ret_int (unhide he).symm, (below_drewN (unhide HB5) _).drew⟩
      · have e0 : (rk == 0) = false := by rw [beq_eq_false_iff_ne]; exact h0
        have e1 : (rk == 1) = false := by rw [beq_eq_false_iff_ne]; exact h1
        have he := hide (show toldE R s.regs s.vars s.at_ v = ra by rw [hn]; unfold heldE; rw [if_neg h0, if_neg h1])
        clear hn hfit
        go_wp2_with fail
        go_ret
        exact ⟨ret_int (unhide he).symm, below_drewN (unhide HB5) _⟩

set_option maxRecDepth 100000 in
set_option maxHeartbeats 4000000 in
theorem seen4_any (m x0 x1 x2 x3 : Int) (g off cap : Nat) (w : World) (c0 : w.cell? ⟨g, off, none⟩ = some (.int .i64 x0)) (c1 : w.cell? ⟨g, off + 1, none⟩ = some (.int .i64 x1)) (c2 : w.cell? ⟨g, off + 2, none⟩ = some (.int .i64 x2)) (c3 : w.cell? ⟨g, off + 3, none⟩ = some (.int .i64 x3)) :
    Calls Tryd.prog 32 #[.int .i64 m, .slice (some ⟨g, off, none⟩) 4 cap] w fun e w' => e = .returned (.agg #[.int .i64 m, .int .i64 x0, .int .i64 x1, .int .i64 x2, .int .i64 x3]) ∧ Below w.heap.size w w' := by
  have hg : g < w.heap.size := World.block_lt_of_cell? w ⟨g, off, none⟩ c0
  go_enter Tryd.func32, Tryd.ntmps32
  go_wp2
  refine wp_loop_rounds 5 ?_
  iterate 4 (rw [rounds_succ]; go_wp2)
  rw [rounds_succ]
  go_wp2
  go_returns
  exact ⟨rfl, ((Below.refl _ _).alloc (Nat.le_refl _) _).alloc (by simp) _⟩
end Go.Proofs.YtnpbajhlhkmljaaDoor
