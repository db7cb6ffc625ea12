/-
  The document's own run: new lists of one number (lodgeref.filled), and what is seen at a Stop (lodgeref.seen).
-/
import Derived.Test.YtoepcplbpochpaaDoorUnit3
import Derived.Handy
import Derived.OwnWalk
import Derived.Test.YtoepcplbpochpaaDoorUnit21
import Derived.Test.YtoepcplbpochpaaDoorUnit29
import Derived.Deep.RegionHeld3
import Derived.Deep.QuietTactic
import Derived.BigQuiet

namespace Go.Proofs.YtoepcplbpochpaaDoor
open Go.RowKit

/-- What filled gives: a new row of n numbers v. -/
def FilledPost (w : World) (n : Nat) (v : Int) (e : Ending) (w' : World) : Prop :=
  e = .returned (.slice (some ⟨w.heap.size, 0, none⟩) n n) ∧ (∃ cs, w'.heap[w.heap.size]? = some (.cells cs 3 (0, 0)) ∧ cs.size = n ∧ ∀ i, i < n → cs[i]? = some (.int .i64 v)) ∧ w'.heap.size = w.heap.size + 1 ∧ Below w.heap.size w w'

theorem Tryd.i3 : (Tryd.prog.info? 3).map (fun i => (i.zero, i.size, i.bytes)) = some (some (.int .i64 0), 1, 8) := by kernel_rfl

set_option maxRecDepth 100000 in
set_option maxHeartbeats 1000000 in
theorem filled_any (n : Nat) (v : Int) (w : World) (hn : n ≤ 16) : Calls Tryd.prog 52 #[.int .i64 (n : Int), .int .i64 v] w (FilledPost w n v) := by
  obtain ⟨i0, hi, hz0, hz1, hz2⟩ := info_parts Tryd.i3
  have hmk : ∀ w : World, (Instr.makeSlice 32 (.int .i64 (n : Int)) (.int .i64 (n : Int))).run Tryd.prog w = .ok (.slice (some ⟨w.heap.size, 0, none⟩) n n) (w.alloc (.cells (madeCells (Value.int .i64 0).cells (n * 1)) 3)) := fun w => by
    have := run_make (P := Tryd.prog) w 32 3 i0 (.int .i64 0) Tryd.underlying32 hi hz0 .i64 .i64 (n : Int) (n : Int) (by omega) (by omega) (by rw [hz2]; omega) (by omega)
    rw [hz1] at this
    simpa using this
  clear hi hz0 hz1 hz2
  go_enter Tryd.func52, Tryd.ntmps52
  go_wp2_with fail
  obtain ⟨w1, hw1⟩ : ∃ w1, w1 = w.alloc (.cells (madeCells #[Value.int .i64 0] n) 3) := ⟨_, rfl⟩
  rw [← hw1]
  have HG1 : Hid (∃ cs, w1.heap[w.heap.size]? = some (.cells cs 3 (0, 0)) ∧ cs.size = n ∧ ∀ i, i < 0 → cs[i]? = some (.int .i64 v)) := by
    rw [hw1]; exact ⟨_, heap_alloc_new _ _, by simp [madeCells], fun i hi => absurd hi (by omega)⟩
  have hz1 : w1.heap.size = w.heap.size + 1 := by rw [hw1]; simp
  have HB1 : Hid (Below w.heap.size w w1) := by rw [hw1]; exact (Below.refl _ _).alloc (Nat.le_refl _) _
  clear hw1 hmk
  go_loopw [6] (fun i wr => ∃ k : Nat, k ≤ n ∧ i = .int .i64 k ∧ Hid (∃ cs, wr.heap[w.heap.size]? = some (.cells cs 3 (0, 0)) ∧ cs.size = n ∧ ∀ i, i < k → cs[i]? = some (.int .i64 v)) ∧ Hid (wr.heap.size = w.heap.size + 1) ∧ Hid (Below w.heap.size w wr)) (fun i _ => n - (intOf i).toNat)
  case atStart => exact ⟨0, Nat.zero_le _, rfl, unhide HG1, hz1, unhide HB1⟩
  case round =>
    obtain ⟨k, hk, rfl, HG, HZ, HB⟩ := hrel
    by_cases hlt : k < n
    · obtain ⟨cs, h1, h2, h3⟩ := unhide HG
      have ck : wr.cell? ⟨w.heap.size, k, none⟩ = some (cs[k]'(by omega)) := by rw [cell_of_row wr _ k cs 3 (0, 0) h1]; exact Array.getElem?_eq_getElem _
      obtain ⟨u, hu⟩ : ∃ u, u = cs[k]'(by omega) := ⟨_, rfl⟩
      rw [← hu] at ck
      have hf : wr.frozen? ⟨w.heap.size, k, none⟩ = false := by simp [World.frozen?, h1]
      have HN : Hid (∃ cs, (wr.setCell ⟨w.heap.size, k, none⟩ (.int .i64 v)).heap[w.heap.size]? = some (.cells cs 3 (0, 0)) ∧ cs.size = n ∧ ∀ i, i < k + 1 → cs[i]? = some (.int .i64 v)) := by
        refine ⟨_, heap_setCell_same wr _ k cs 3 _ h1, by rw [Array.size_setIfInBounds]; exact h2, fun i hi => ?_⟩
        by_cases hik : i = k
        · subst hik; rw [Array.getElem?_setIfInBounds_self_of_lt (by omega)]
        · rw [Array.getElem?_setIfInBounds_ne (by omega)]; exact h3 i (by omega)
      clear h1 h2 h3 hu
      go_wp2
      go_roundw
      case rel => exact ⟨k + 1, by omega, by go_num, unhide HN, by unfold Hid; rw [World.size_setCell]; exact unhide HZ, (unhide HB).setCell (p := ⟨w.heap.size, k, none⟩) (Nat.le_refl _) _⟩
      case measure => simp [intOf]; omega
    · obtain rfl : k = n := by omega
      go_wp2
      go_ret
      exact ⟨rfl, unhide HG, unhide HZ, unhide HB⟩

set_option maxRecDepth 100000 in
set_option maxHeartbeats 4000000 in
theorem seen_any (m : Int) (H V : Nat) (f : Nat → Int) (w : World) (hV : V ≤ 4) (hH : H < w.heap.size) (hc : ∀ i, i < V → w.cell? ⟨H, i, none⟩ = some (.int .i64 (f i))) (hf : ∀ i : Nat, V ≤ i → f i = -1) :
    Calls Tryd.prog 53 #[.int .i64 m, .slice (some ⟨H, 0, none⟩) V V] w fun e w' => e = .returned (.agg #[.int .i64 m, .int .i64 (f 0), .int .i64 (f 1), .int .i64 (f 2), .int .i64 (f 3)]) ∧ Below w.heap.size w w' := by
  have HF := hide hf
  have HC := hide hc
  obtain ⟨x0, h0⟩ : ∃ x, x = f 0 := ⟨_, rfl⟩
  obtain ⟨x1, h1⟩ : ∃ x, x = f 1 := ⟨_, rfl⟩
  obtain ⟨x2, h2⟩ : ∃ x, x = f 2 := ⟨_, rfl⟩
  obtain ⟨x3, h3⟩ : ∃ x, x = f 3 := ⟨_, rfl⟩
  rw [← h0, ← h1, ← h2, ← h3]
  have H0 := hide h0
  have H1 := hide h1
  have H2 := hide h2
  have H3 := hide h3
  clear h0 h1 h2 h3 hf hc
  rcases (show V = 0 ∨ V = 1 ∨ V = 2 ∨ V = 3 ∨ V = 4 by omega) with rfl | rfl | rfl | rfl | rfl
  · obtain rfl : x0 = -1 := (unhide H0).trans (unhide HF 0 (by omega))
    obtain rfl : x1 = -1 := (unhide H1).trans (unhide HF 1 (by omega))
    obtain rfl : x2 = -1 := (unhide H2).trans (unhide HF 2 (by omega))
    obtain rfl : x3 = -1 := (unhide H3).trans (unhide HF 3 (by omega))
    go_enter Tryd.func53, Tryd.ntmps53
    go_wp2
    refine wp_loop_rounds 5 ?_
    iterate 4 (rw [rounds_succ]; go_wp2)
    rw [rounds_succ]
    go_wp2
    go_returns
    exact ⟨rfl, ((Below.refl _ _).alloc (Nat.le_refl _) _).alloc (by simp) _⟩
  · have c0 : w.cell? ⟨H, 0, none⟩ = some (.int .i64 x0) := by rw [unhide H0]; exact unhide HC 0 (by omega)
    obtain rfl : x1 = -1 := (unhide H1).trans (unhide HF 1 (by omega))
    obtain rfl : x2 = -1 := (unhide H2).trans (unhide HF 2 (by omega))
    obtain rfl : x3 = -1 := (unhide H3).trans (unhide HF 3 (by omega))
    go_enter Tryd.func53, Tryd.ntmps53
    go_wp2
    refine wp_loop_rounds 5 ?_
    iterate 4 (rw [rounds_succ]; go_wp2)
    rw [rounds_succ]
    go_wp2
    go_returns
    exact ⟨rfl, ((Below.refl _ _).alloc (Nat.le_refl _) _).alloc (by simp) _⟩
  · have c0 : w.cell? ⟨H, 0, none⟩ = some (.int .i64 x0) := by rw [unhide H0]; exact unhide HC 0 (by omega)
    have c1 : w.cell? ⟨H, 1, none⟩ = some (.int .i64 x1) := by rw [unhide H1]; exact unhide HC 1 (by omega)
    obtain rfl : x2 = -1 := (unhide H2).trans (unhide HF 2 (by omega))
    obtain rfl : x3 = -1 := (unhide H3).trans (unhide HF 3 (by omega))
    go_enter Tryd.func53, Tryd.ntmps53
    go_wp2
    refine wp_loop_rounds 5 ?_
    iterate 4 (rw [rounds_succ]; go_wp2)
    rw [rounds_succ]
    go_wp2
    go_returns
    exact ⟨rfl, ((Below.refl _ _).alloc (Nat.le_refl _) _).alloc (by simp) _⟩
  · have c0 : w.cell? ⟨H, 0, none⟩ = some (.int .i64 x0) := by rw [unhide H0]; exact unhide HC 0 (by omega)
    have c1 : w.cell? ⟨H, 1, none⟩ = some (.int .i64 x1) := by rw [unhide H1]; exact unhide HC 1 (by omega)
    have c2 : w.cell? ⟨H, 2, none⟩ = some (.int .i64 x2) := by rw [unhide H2]; exact unhide HC 2 (by omega)
    obtain rfl : x3 = -1 := (unhide H3).trans (unhide HF 3 (by omega))
    go_enter Tryd.func53, Tryd.ntmps53
    go_wp2
    refine wp_loop_rounds 5 ?_
    iterate 4 (rw [rounds_succ]; go_wp2)
    rw [rounds_succ]
    go_wp2
    go_returns
    exact ⟨rfl, ((Below.refl _ _).alloc (Nat.le_refl _) _).alloc (by simp) _⟩
  · have c0 : w.cell? ⟨H, 0, none⟩ = some (.int .i64 x0) := by rw [unhide H0]; exact unhide HC 0 (by omega)
    have c1 : w.cell? ⟨H, 1, none⟩ = some (.int .i64 x1) := by rw [unhide H1]; exact unhide HC 1 (by omega)
    have c2 : w.cell? ⟨H, 2, none⟩ = some (.int .i64 x2) := by rw [unhide H2]; exact unhide HC 2 (by omega)
    have c3 : w.cell? ⟨H, 3, none⟩ = some (.int .i64 x3) := by rw [unhide H3]; exact unhide HC 3 (by omega)
    go_enter Tryd.func53, Tryd.ntmps53
    go_wp2
    refine wp_loop_rounds 5 ?_
    iterate 4 (rw [rounds_succ]; go_wp2)
    rw [rounds_succ]
    go_wp2
    go_returns
    exact ⟨rfl, ((Below.refl _ _).alloc (Nat.le_refl _) _).alloc (by simp) _⟩
end Go.Proofs.YtoepcplbpochpaaDoor

/-
  What the document's own unit's run tells of a variable (lodgeref.told), and what is seen of four.
-/
namespace Go.Proofs.YtoepcplbpochpaaDoor
open Go.RowKit

/-- What the ranges of a unit's table keep to, by its registers and slots. -/
def RgRoom (K S : Nat) (r : Rg) : Prop := (r.k = 0 → 0 ≤ r.a ∧ r.a < (K : Int)) ∧ (r.k = 1 → 0 ≤ r.a ∧ r.a < (S : Int))
theorem RightU.room {K S : Nat} {P V : Int} {L : List In4} {R : List Rg} (h : RightU (K : Int) (S : Int) P V L R) : ∀ i, i < R.length → RgRoom K S (rg R i) := fun i hi => by
  have h1 := isTab_rg h.tab hi
  obtain ⟨g1, g2, g3, g4⟩ := h.rgs i hi
  simp [isRg] at h1
  refine ⟨fun e => ?_, fun e => ?_⟩
  · have := g3 e; omega
  · have := g4 e; omega

set_option maxRecDepth 100000 in
set_option maxHeartbeats 4000000 in
theorem refTold_any (M G H K S : Nat) (s : St) (R : List Rg) (ta : Option Addr) (tc v : Nat) (w : World) (hm : MomB w M G H K S s) (hvc : s.env.vc = 2) (hH : Held w ta R) (hF : ∀ i, i < R.length → RgRoom K S (rg R i)) (hlen : R.length ≤ 1000) :
    Calls Tryd.prog 61 #[.slice ta R.length tc, .int .i64 (v : Int), .pointer (some ⟨M, 0, none⟩)] w fun e w' =>
      e = .returned (.int .i64 (toldE R s.regs s.vars s.at_ v)) ∧ Below w.heap.size w w' := by
  have hM := hm.im
  have hG := hm.ig
  have hHs := hm.ih
  have HM := hide hm
  have HH := hide hH
  have HF := hide hF
  have HVC := hide hvc
  clear hm hH hF hvc
  go_enter Tryd.func61, Tryd.ntmps61
  go_wp2_with fail
  go_loopw [7] (fun j wr => ∃ k : Nat, k ≤ R.length ∧ j = .int .i64 k ∧ Hid (toldE R s.regs s.vars s.at_ v = toldFrom R s.regs s.vars s.at_ v k (R.length - k)) ∧ Hid (Below w.heap.size w wr)) (fun j _ => R.length - (intOf j).toNat)
  case atStart => exact ⟨0, Nat.zero_le _, rfl, rfl, Below.refl _ _⟩
  case round =>
    obtain ⟨k, hk, rfl, HC, HB⟩ := hrel
    have hBs := (unhide HB).size
    by_cases hlt : k < R.length
    case neg =>
      obtain rfl : k = R.length := by omega
      have he := hide (show toldE R s.regs s.vars s.at_ v = -1 by rw [unhide HC, Nat.sub_self]; rfl)
      clear HC
      go_wp2_with fail
      go_ret
      exact ⟨ret_int (unhide he).symm, unhide HB⟩
    obtain ⟨b, off, rfl, hb, hL⟩ : ∃ b off, ta = some ⟨b, off, none⟩ ∧ b < w.heap.size ∧ Lie w b off R := by
      rcases unhide HH with h | h
      · subst h; exact absurd hlt (by simp)
      · exact h
    obtain ⟨r, hr⟩ : ∃ r, r = rg R k := ⟨_, rfl⟩
    have hA := (hL k hlt).below (unhide HB) hb
    have hfit := unhide HF k hlt
    rw [← hr] at hA hfit
    have HR := hide hr
    have HMr := hide ((unhide HM).of_block ((unhide HB).block M hM) ((unhide HB).block G hG) ((unhide HB).block H hHs) (unhide HB).size)
    have hMr : M < wr.heap.size := (unhide HMr).im
    have hGr : G < wr.heap.size := (unhide HMr).ig
    have hHr : H < wr.heap.size := (unhide HMr).ih
    obtain ⟨at0, hat⟩ : ∃ a : Nat, a = s.at_ := ⟨_, rfl⟩
    have c0 : wr.cell? ⟨M, 0, none⟩ = some (.int .i64 (at0 : Int)) := by rw [hat]; exact (unhide HMr).at_
    have c1 := (unhide HMr).rg
    have c2 : wr.cell? ⟨M, 2, none⟩ = some (.slice (some ⟨H, 0, none⟩) S S) := by have h := (unhide HMr).vr; rw [unhide HVC] at h; exact h
    have HAT := hide hat
    have hMiss : Hid (¬ Hits r at0 v → toldE R s.regs s.vars s.at_ v = toldFrom R s.regs s.vars s.at_ v (k + 1) (R.length - (k + 1))) := fun h => by
      rw [unhide HC]; exact told_on hlt (by rw [← unhide HR, ← unhide HAT]; exact h)
    have hHit : Hid (Hits r at0 v → toldE R s.regs s.vars s.at_ v = heldE s.regs s.vars r) := fun h => by
      rw [unhide HC, unhide HR]; exact told_here hlt (by rw [← unhide HR, ← unhide HAT]; exact h)
    obtain ⟨x0, x1, x2, x3, x4⟩ := hA
    clear hr hL hat HC
    obtain ⟨rv, rf, rt, rk, ra⟩ := r
    simp only at x0 x1 x2 x3 x4
    have hbr : b < wr.heap.size := by omega
    go_wp2_with fail
    obtain ⟨w5, hw5⟩ : ∃ w5, w5 = wr.alloc (.cells #[.int .i64 rv, .int .i64 rf, .int .i64 rt, .int .i64 rk, .int .i64 ra] 132) := ⟨_, rfl⟩
    rw [← hw5]
    have q : ∀ o, w5.cell? ⟨wr.heap.size, o, none⟩ = #[Value.int .i64 rv, .int .i64 rf, .int .i64 rt, .int .i64 rk, .int .i64 ra][o]? := fun o => by rw [hw5]; exact World.cell?_alloc_at (hn := rfl) ..
    have q0 : w5.cell? ⟨wr.heap.size, 0, none⟩ = some (.int .i64 rv) := (q 0).trans rfl
    have q1 : w5.cell? ⟨wr.heap.size, 1, none⟩ = some (.int .i64 rf) := (q 1).trans rfl
    have q2 : w5.cell? ⟨wr.heap.size, 2, none⟩ = some (.int .i64 rt) := (q 2).trans rfl
    have q3 : w5.cell? ⟨wr.heap.size, 3, none⟩ = some (.int .i64 rk) := (q 3).trans rfl
    have q4 : w5.cell? ⟨wr.heap.size, 4, none⟩ = some (.int .i64 ra) := (q 4).trans rfl
    have HM5 : Hid (MomB w5 M G H K S s) := by rw [hw5]; exact (unhide HMr).of_block (Below.heap_alloc _ _ _ hMr) (Below.heap_alloc _ _ _ hGr) (Below.heap_alloc _ _ _ hHr) (by simp)
    have HB5 : Hid (Below w.heap.size w w5) := by rw [hw5]; exact (unhide HB).alloc (by omega) _
    have d0 : w5.cell? ⟨M, 0, none⟩ = some (.int .i64 (at0 : Int)) := by rw [unhide HAT]; exact (unhide HM5).at_
    have d1 := (unhide HM5).rg
    have d2 : w5.cell? ⟨M, 2, none⟩ = some (.slice (some ⟨H, 0, none⟩) S S) := by have h := (unhide HM5).vr; rw [unhide HVC] at h; exact h
    clear hw5 q x0 x1 x2 x3 x4 c0 c1 c2
    rcases (show rv ≠ (v : Int) ∨ (rv = (v : Int) ∧ (at0 : Int) < rf) ∨ (rv = (v : Int) ∧ rf ≤ (at0 : Int) ∧ rt ≤ (at0 : Int)) ∨ (rv = (v : Int) ∧ rf ≤ (at0 : Int) ∧ (at0 : Int) < rt) by omega) with g | ⟨g, g1⟩ | ⟨g, g1, g2⟩ | ⟨g, g1, g2⟩
    · have hn := hide (unhide hMiss (fun h => g h.1))
      have g' : (rv == (v : Int)) = false := by rw [beq_eq_false_iff_ne]; exact g
      clear hMiss hHit hfit
      go_quiet (fail)
      go_wp2_with fail
      go_roundw
      case rel => exact ⟨k + 1, by omega, by go_num, unhide hn, below_drewN (unhide HB5) _⟩
      case measure => simp [intOf]; omega
    · subst g
      have hn := hide (unhide hMiss (fun h => by have := h.2.1; simp only at this; omega))
      have g' : decide (rf ≤ (at0 : Int)) = false := by simp; omega
      clear hMiss hHit hfit
      go_quiet (fail)
      go_wp2_with fail
      go_roundw
      case rel => exact ⟨k + 1, by omega, by go_num, unhide hn, below_drewN (unhide HB5) _⟩
      case measure => simp [intOf]; omega
    · subst g
      have hn := hide (unhide hMiss (fun h => by have := h.2.2; simp only at this; omega))
      have g' : decide (rf ≤ (at0 : Int)) = true := by simp; omega
      have g'' : decide ((at0 : Int) < rt) = false := by simp; omega
      clear hMiss hHit hfit
      go_quiet (fail)
      go_wp2_with fail
      go_roundw
      case rel => exact ⟨k + 1, by omega, by go_num, unhide hn, below_drewN (unhide HB5) _⟩
      case measure => simp [intOf]; omega
    · subst g
      have hn := unhide hHit ⟨rfl, g1, g2⟩
      have g' : decide (rf ≤ (at0 : Int)) = true := by simp; omega
      have g'' : decide ((at0 : Int) < rt) = true := by simp; omega
      clear hMiss hHit
      go_quiet (fail)
      by_cases h0 : rk = 0
      · subst h0
        obtain ⟨a0, a1⟩ := hfit.1 rfl
        simp only at a0 a1
        obtain ⟨an, rfl⟩ : ∃ an : Nat, ra = an := ⟨ra.toNat, by omega⟩
        obtain ⟨y, hy⟩ : ∃ y, y = s.regs an := ⟨_, rfl⟩
        have ca : w5.cell? ⟨G, an, none⟩ = some (.int .i64 y) := by rw [hy]; exact (unhide HM5).regs an (by omega)
        have he := hide (show toldE R s.regs s.vars s.at_ v = y by rw [hn, hy]; rfl)
        clear hy hn hfit
        go_wp2_with fail
        go_region_held3 (fun w' => w'.cell? ⟨wr.heap.size, 4, none⟩ = some (.int .i64 (an : Int)) ∧ w'.cell? ⟨M, 1, none⟩ = some (.slice (some ⟨G, 0, none⟩) K K) ∧ w'.cell? ⟨G, an, none⟩ = some (.int .i64 y)) (simp [*]) (fail)
        go_wp2_with fail
        go_ret
        exact ⟨ret_int (unhide he).symm, (below_drewN (unhide HB5) _).drew⟩
      by_cases h1 : rk = 1
      · subst h1
        obtain ⟨a0, a1⟩ := hfit.2 rfl
        simp only at a0 a1
        obtain ⟨an, rfl⟩ : ∃ an : Nat, ra = an := ⟨ra.toNat, by omega⟩
        obtain ⟨y, hy⟩ : ∃ y, y = s.vars an := ⟨_, rfl⟩
        have ca : w5.cell? ⟨H, an, none⟩ = some (.int .i64 y) := by rw [hy]; exact (unhide HM5).vars an (by omega)
        have he := hide (show toldE R s.regs s.vars s.at_ v = y by rw [hn, hy]; rfl)
        clear hy hn hfit
        go_wp2_with fail
        go_region_held3 (fun w' => w'.cell? ⟨wr.heap.size, 4, none⟩ = some (.int .i64 (an : Int)) ∧ w'.cell? ⟨M, 2, none⟩ = some (.slice (some ⟨H, 0, none⟩) S S) ∧ w'.cell? ⟨H, an, none⟩ = some (.int .i64 y)) (simp [*]) (fail)
        go_wp2_with fail
        go_ret
        exact ⟨ret_int (unhide he).symm, (below_drewN (unhide HB5) _).drew⟩
      · have e0 : (rk == 0) = false := by rw [beq_eq_false_iff_ne]; exact h0
        have e1 : (rk == 1) = false := by rw [beq_eq_false_iff_ne]; exact h1
        have he := hide (show toldE R s.regs s.vars s.at_ v = ra by rw [hn]; unfold heldE; rw [if_neg h0, if_neg h1])
        clear hn hfit
        go_wp2_with fail
        go_ret
        exact ⟨ret_int (unhide he).symm, below_drewN (unhide HB5) _⟩

set_option maxRecDepth 100000 in
set_option maxHeartbeats 4000000 in
theorem seen4_any (m x0 x1 x2 x3 : Int) (g off cap : Nat) (w : World) (c0 : w.cell? ⟨g, off, none⟩ = some (.int .i64 x0)) (c1 : w.cell? ⟨g, off + 1, none⟩ = some (.int .i64 x1)) (c2 : w.cell? ⟨g, off + 2, none⟩ = some (.int .i64 x2)) (c3 : w.cell? ⟨g, off + 3, none⟩ = some (.int .i64 x3)) :
    Calls Tryd.prog 53 #[.int .i64 m, .slice (some ⟨g, off, none⟩) 4 cap] w fun e w' => e = .returned (.agg #[.int .i64 m, .int .i64 x0, .int .i64 x1, .int .i64 x2, .int .i64 x3]) ∧ Below w.heap.size w w' := by
  have hg : g < w.heap.size := World.block_lt_of_cell? w ⟨g, off, none⟩ c0
  go_enter Tryd.func53, Tryd.ntmps53
  go_wp2
  refine wp_loop_rounds 5 ?_
  iterate 4 (rw [rounds_succ]; go_wp2)
  rw [rounds_succ]
  go_wp2
  go_returns
  exact ⟨rfl, ((Below.refl _ _).alloc (Nat.le_refl _) _).alloc (by simp) _⟩
end Go.Proofs.YtoepcplbpochpaaDoor
