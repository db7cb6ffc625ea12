/-
  The document's own run: new lists of one number (lodgeref.filled), and what is seen at a Stop (lodgeref.seen).
-/
import Derived.Test.YtoepcplbpochpaaDoorRunMath
import Derived.Handy
import Derived.OwnWalk
namespace Go.Proofs.YtoepcplbpochpaaDoor
open Go.RowKit

/-- What filled gives: a new row of n numbers v. -/
def FilledPost (w : World) (n : Nat) (v : Int) (e : Ending) (w' : World) : Prop :=
  e = .returned (.slice (some ⟨w.heap.size, 0, none⟩) n n) ∧ (∃ cs, w'.heap[w.heap.size]? = some (.cells cs 3 (0, 0)) ∧ cs.size = n ∧ ∀ i, i < n → cs[i]? = some (.int .i64 v)) ∧ w'.heap.size = w.heap.size + 1 ∧ Below w.heap.size w w'

theorem Tryd.i3 : (Tryd.prog.info? 3).map (fun i => (i.zero, i.size, i.bytes)) = some (some (.int .i64 0), 1, 8) := by kernel_rfl

set_option maxRecDepth 100000 in
set_option maxHeartbeats 1000000 in
theorem filled_any (n : Nat) (v : Int) (w : World) (hn : n ≤ 16) : Calls Tryd.prog 52 #[.int .i64 (n : Int), .int .i64 v] w (FilledPost w n v) := by
  obtain ⟨i0, hi, hz0, hz1, hz2⟩ := info_parts Tryd.i3
  have hmk : ∀ w : World, (Instr.makeSlice 32 (.int .i64 (n : Int)) (.int .i64 (n : Int))).run Tryd.prog w = .ok (.slice (some ⟨w.heap.size, 0, none⟩) n n) (w.alloc (.cells (madeCells (Value.int .i64 0).cells (n * 1)) 3)) := fun w => by
    have := run_make (P := Tryd.prog) w 32 3 i0 (.int .i64 0) Tryd.underlying32 hi hz0 .i64 .i64 (n : Int) (n : Int) (by omega) (by omega) (by rw [hz2]; omega) (by omega)
    rw [hz1] at this
    simpa using this
  clear hi hz0 hz1 hz2
  go_enter Tryd.func52, Tryd.ntmps52
  go_wp2_with fail
  obtain ⟨w1, hw1⟩ : ∃ w1, w1 = w.alloc (.cells (madeCells #[Value.int .i64 0] n) 3) := ⟨_, rfl⟩
  rw [← hw1]
  have HG1 : Hid (∃ cs, w1.heap[w.heap.size]? = some (.cells cs 3 (0, 0)) ∧ cs.size = n ∧ ∀ i, i < 0 → cs[i]? = some (.int .i64 v)) := by
    rw [hw1]; exact ⟨_, heap_alloc_new _ _, by simp [madeCells], fun i hi => absurd hi (by omega)⟩
  have hz1 : w1.heap.size = w.heap.size + 1 := by rw [hw1]; simp
  have HB1 : Hid (Below w.heap.size w w1) := by rw [hw1]; exact (Below.refl _ _).alloc (Nat.le_refl _) _
  clear hw1 hmk
  go_loopw [6] (fun i wr => ∃ k : Nat, k ≤ n ∧ i = .int .i64 k ∧ Hid (∃ cs, wr.heap[w.heap.size]? = some (.cells cs 3 (0, 0)) ∧ cs.size = n ∧ ∀ i, i < k → cs[i]? = some (.int .i64 v)) ∧ Hid (wr.heap.size = w.heap.size + 1) ∧ Hid (Below w.heap.size w wr)) (fun i _ => n - (intOf i).toNat)
  case atStart => exact ⟨0, Nat.zero_le _, rfl, unhide HG1, hz1, unhide HB1⟩
  case round =>
    obtain ⟨k, hk, rfl, HG, HZ, HB⟩ := hrel
    by_cases hlt : k < n
    · obtain ⟨cs, h1, h2, h3⟩ := unhide HG
      have ck : wr.cell? ⟨w.heap.size, k, none⟩ = some (cs[k]'(by omega)) := by rw [cell_of_row wr _ k cs 3 (0, 0) h1]; exact Array.getElem?_eq_getElem _
      obtain ⟨u, hu⟩ : ∃ u, u = cs[k]'(by omega) := ⟨_, rfl⟩
      rw [← hu] at ck
      have hf : wr.frozen? ⟨w.heap.size, k, none⟩ = false := by simp [World.frozen?, h1]
      have HN : Hid (∃ cs, (wr.setCell ⟨w.heap.size, k, none⟩ (.int .i64 v)).heap[w.heap.size]? = some (.cells cs 3 (0, 0)) ∧ cs.size = n ∧ ∀ i, i < k + 1 → cs[i]? = some (.int .i64 v)) := by
        refine ⟨_, heap_setCell_same wr _ k cs 3 _ h1, by rw [Array.size_setIfInBounds]; exact h2, fun i hi => ?_⟩
        by_cases hik : i = k
        · subst hik; rw [Array.getElem?_setIfInBounds_self_of_lt (by omega)]
        · rw [Array.getElem?_setIfInBounds_ne (by omega)]; exact h3 i (by omega)
      clear h1 h2 h3 hu
      go_wp2
      go_roundw
      case rel => exact ⟨k + 1, by omega, by go_num, unhide HN, by unfold Hid; rw [World.size_setCell]; exact unhide HZ, (unhide HB).setCell (p := ⟨w.heap.size, k, none⟩) (Nat.le_refl _) _⟩
      case measure => simp [intOf]; omega
    · obtain rfl : k = n := by omega
      go_wp2
      go_ret
      exact ⟨rfl, unhide HG, unhide HZ, unhide HB⟩

set_option maxRecDepth 100000 in
set_option maxHeartbeats 4000000 in
theorem seen_any (m : Int) (H V : Nat) (f : Nat → Int) (w : World) (hV : V ≤ 4) (hH : H < w.heap.size) (hc : ∀ i, i < V → w.cell? ⟨H, i, none⟩ = some (.int .i64 (f i))) (hf : ∀ i : Nat, V ≤ i → f i = -1) :
    Calls Tryd.prog 53 #[.int .i64 m, .slice (some ⟨H, 0, none⟩) V V] w fun e w' => e = .returned (.agg #[.int .i64 m, .int .i64 (f 0), .int .i64 (f 1), .int .i64 (f 2), .int .i64 (f 3)]) ∧ Below w.heap.size w w' := by
  have HF := hide hf
  have HC := hide hc
  obtain ⟨x0, h0⟩ : ∃ x, x = f 0 := ⟨_, rfl⟩
  obtain ⟨x1, h1⟩ : ∃ x, x = f 1 := ⟨_, rfl⟩
  obtain ⟨x2, h2⟩ : ∃ x, x = f 2 := ⟨_, rfl⟩
  obtain ⟨x3, h3⟩ : ∃ x, x = f 3 := ⟨_, rfl⟩
  rw [← h0, ← h1, ← h2, ← h3]
  have H0 := hide h0
  have H1 := hide h1
  have H2 := hide h2
  have H3 := hide h3
  clear h0 h1 h2 h3 hf hc
  rcases (show V = 0 ∨ V = 1 ∨ V = 2 ∨ V = 3 ∨ V = 4 by omega) with rfl | rfl | rfl | rfl | rfl
  · obtain rfl : x0 = -1 := (unhide H0).trans (unhide HF 0 (by omega))
    obtain rfl : x1 = -1 := (unhide H1).trans (unhide HF 1 (by omega))
    obtain rfl : x2 = -1 := (unhide H2).trans (unhide HF 2 (by omega))
    obtain rfl : x3 = -1 := (unhide H3).trans (unhide HF 3 (by omega))
    go_enter Tryd.func53, Tryd.ntmps53
    go_wp2
    refine wp_loop_rounds 5 ?_
    iterate 4 (rw [rounds_succ]; go_wp2)
    rw [rounds_succ]
    go_wp2
    go_returns
    exact ⟨rfl, ((Below.refl _ _).alloc (Nat.le_refl _) _).alloc (by simp) _⟩
  · have c0 : w.cell? ⟨H, 0, none⟩ = some (.int .i64 x0) := by rw [unhide H0]; exact unhide HC 0 (by omega)
    obtain rfl : x1 = -1 := (unhide H1).trans (unhide HF 1 (by omega))
    obtain rfl : x2 = -1 := (unhide H2).trans (unhide HF 2 (by omega))
    obtain rfl : x3 = -1 := (unhide H3).trans (unhide HF 3 (by omega))
    go_enter Tryd.func53, Tryd.ntmps53
    go_wp2
    refine wp_loop_rounds 5 ?_
    iterate 4 (rw [rounds_succ]; go_wp2)
    rw [rounds_succ]
    go_wp2
    go_returns
    exact ⟨rfl, ((Below.refl _ _).alloc (Nat.le_refl _) _).alloc (by simp) _⟩
  · have c0 : w.cell? ⟨H, 0, none⟩ = some (.int .i64 x0) := by rw [unhide H0]; exact unhide HC 0 (by omega)
    have c1 : w.cell? ⟨H, 1, none⟩ = some (.int .i64 x1) := by rw [unhide H1]; exact unhide HC 1 (by omega)
    obtain rfl : x2 = -1 := (unhide H2).trans (unhide HF 2 (by omega))
    obtain rfl : x3 = -1 := (unhide H3).trans (unhide HF 3 (by omega))
    go_enter Tryd.func53, Tryd.ntmps53
    go_wp2
    refine wp_loop_rounds 5 ?_
    iterate 4 (rw [rounds_succ]; go_wp2)
    rw [rounds_succ]
    go_wp2
    go_returns
    exact ⟨rfl, ((Below.refl _ _).alloc (Nat.le_refl _) _).alloc (by simp) _⟩
  · have c0 : w.cell? ⟨H, 0, none⟩ = some (.int .i64 x0) := by rw [unhide H0]; exact unhide HC 0 (by omega)
    have c1 : w.cell? ⟨H, 1, none⟩ = some (.int .i64 x1) := by rw [unhide H1]; exact unhide HC 1 (by omega)
    have c2 : w.cell? ⟨H, 2, none⟩ = some (.int .i64 x2) := by rw [unhide H2]; exact unhide HC 2 (by omega)
    obtain rfl : x3 = -1 := (unhide H3).trans (unhide HF 3 (by omega))
    go_enter Tryd.func53, Tryd.ntmps53
    go_wp2
    refine wp_loop_rounds 5 ?_
    iterate 4 (rw [rounds_succ]; go_wp2)
    rw [rounds_succ]
    go_wp2
    go_returns
    exact ⟨rfl, ((Below.refl _ _).alloc (Nat.le_refl _) _).alloc (by simp) _⟩
  · have c0 : w.cell? ⟨H, 0, none⟩ = some (.int .i64 x0) := by rw [unhide H0]; exact unhide HC 0 (by omega)
    have c1 : w.cell? ⟨H, 1, none⟩ = some (.int .i64 x1) := by rw [unhide H1]; exact unhide HC 1 (by omega)
    have c2 : w.cell? ⟨H, 2, none⟩ = some (.int .i64 x2) := by rw [unhide H2]; exact unhide HC 2 (by omega)
    have c3 : w.cell? ⟨H, 3, none⟩ = some (.int .i64 x3) := by rw [unhide H3]; exact unhide HC 3 (by omega)
    go_enter Tryd.func53, Tryd.ntmps53
    go_wp2
    refine wp_loop_rounds 5 ?_
    iterate 4 (rw [rounds_succ]; go_wp2)
    rw [rounds_succ]
    go_wp2
    go_returns
    exact ⟨rfl, ((Below.refl _ _).alloc (Nat.le_refl _) _).alloc (by simp) _⟩
end Go.Proofs.YtoepcplbpochpaaDoor
