/-
  A right instruction out of a raw one: lodgekeep.ins.
-/
import Derived.Test.YtoepcplbpochpabDoorPart22
import Derived.Deep.RegionHeld3

namespace Go.Proofs.YtoepcplbpochpabDoor
open Go.RowKit

theorem Tryd.sizeIns : (Tryd.prog.info? 31).map (·.size) = some 4 := by kernel_rfl

theorem heap_mid (w : World) (A B C : Obj) : (((w.alloc A).alloc B).alloc C).heap[w.heap.size + 1]? = some B := by rw [heap_alloc_old _ _ (by simp)]; exact heap_alloc2_new w A B
theorem below_three (w : World) (A B C : Obj) : Below w.heap.size w (((w.alloc A).alloc B).alloc C) := (((Below.refl _ _).alloc (Nat.le_refl _) _).alloc (by simp) _).alloc (by simp; omega) _

set_option maxRecDepth 100000 in
set_option maxHeartbeats 8000000 in
theorem ins_any (x : In4) (R n V : Int) (w : World) (hR : 0 < R) (hn : 0 < n) (hV : 0 ≤ V) (ho : -9223372036854775808 ≤ x.op ∧ x.op ≤ 9223372036854775807) (hd : -9223372036854775808 ≤ x.d ∧ x.d ≤ 9223372036854775807) (ha : -9223372036854775808 ≤ x.a ∧ x.a ≤ 9223372036854775807) (hb : -9223372036854775808 ≤ x.b ∧ x.b ≤ 9223372036854775807) :
    Calls Tryd.prog 16 #[.agg #[.int .i64 x.op, .int .i64 x.d, .int .i64 x.a, .int .i64 x.b], .int .i64 R, .int .i64 n, .int .i64 V] w fun e w' => e = .returned (.agg #[.int .i64 (insF x R n V).op, .int .i64 (insF x R n V).d, .int .i64 (insF x R n V).a, .int .i64 (insF x R n V).b]) ∧ Below w.heap.size w w' := by
  obtain ⟨op, d, a, b⟩ := x
  simp only at ho hd ha hb
  have KP := hide (fun (c n : Int) (w : World) (h : -9223372036854775808 ≤ c ∧ c ≤ 9223372036854775807) (hn : 0 < n) => pick_any c n w h.1 h.2 hn)
  have hp := pick_lt op 15 (by decide)
  obtain ⟨p, hpe⟩ : ∃ p, p = pickI op 15 := ⟨_, rfl⟩
  rw [← hpe] at hp
  have HPE := hide hpe
  clear hpe
  by_cases hv : V = 0
  · subst hv
    rcases (show p = 0 ∨ p = 1 ∨ p = 2 ∨ p = 3 ∨ p = 4 ∨ p = 5 ∨ p = 6 ∨ p = 7 ∨ p = 8 ∨ p = 9 ∨ p = 10 ∨ p = 11 ∨ p = 12 ∨ p = 13 ∨ p = 14 by omega) with rfl | rfl | rfl | rfl | rfl | rfl | rfl | rfl | rfl | rfl | rfl | rfl | rfl | rfl | rfl
    · have hop : opF ⟨op, d, a, b⟩ 0 = 0 := by unfold opF; simp only; rw [← unhide HPE]; rw [if_neg (by decide)]
      have HE : Hid (insF ⟨op, d, a, b⟩ R n 0 = ⟨0, pickI d R, pickI a 65536, 0⟩) := by unfold insF; rw [hop]; rfl
      clear hop
      go_enter Tryd.func16, Tryd.ntmps16
      go_wp2_with fail
      refine (unhide KP op 15 _ ho (by decide)).mono ?_
      rintro _ _ ⟨rfl, rfl⟩
      rw [← unhide HPE]
      go_wp2_with fail
      refine (unhide KP d R _ hd hR).mono ?_
      rintro _ _ ⟨rfl, rfl⟩
      go_wp2_with fail
      refine (unhide KP a 65536 _ ha (by decide)).mono ?_
      rintro _ _ ⟨rfl, rfl⟩
      go_wp2_with fail
      rw [unhide HE]
      refine bodyPost_ret (results_cell_row rfl _ _ (w.heap.size + 1) 31 _ (0, 0) _ rfl (heap_mid w _ _ _) Tryd.underlying31 rfl Tryd.sizeIns) rfl ⟨rfl, below_three w _ _ _⟩
    · have hop : opF ⟨op, d, a, b⟩ 0 = 1 := by unfold opF; simp only; rw [← unhide HPE]; rw [if_neg (by decide)]
      have HE : Hid (insF ⟨op, d, a, b⟩ R n 0 = ⟨1, pickI d R, pickI a R, 0⟩) := by unfold insF; rw [hop]; rfl
      clear hop
      go_enter Tryd.func16, Tryd.ntmps16
      go_wp2_with fail
      refine (unhide KP op 15 _ ho (by decide)).mono ?_
      rintro _ _ ⟨rfl, rfl⟩
      rw [← unhide HPE]
      go_wp2_with fail
      refine (unhide KP d R _ hd hR).mono ?_
      rintro _ _ ⟨rfl, rfl⟩
      go_wp2_with fail
      refine (unhide KP a R _ ha hR).mono ?_
      rintro _ _ ⟨rfl, rfl⟩
      go_wp2_with fail
      rw [unhide HE]
      refine bodyPost_ret (results_cell_row rfl _ _ (w.heap.size + 1) 31 _ (0, 0) _ rfl (heap_mid w _ _ _) Tryd.underlying31 rfl Tryd.sizeIns) rfl ⟨rfl, below_three w _ _ _⟩
    · have hop : opF ⟨op, d, a, b⟩ 0 = 2 := by unfold opF; simp only; rw [← unhide HPE]; rw [if_neg (by decide)]
      have HE : Hid (insF ⟨op, d, a, b⟩ R n 0 = ⟨2, pickI d R, pickI a R, pickI b R⟩) := by unfold insF; rw [hop]; rfl
      clear hop
      go_enter Tryd.func16, Tryd.ntmps16
      go_wp2_with fail
      refine (unhide KP op 15 _ ho (by decide)).mono ?_
      rintro _ _ ⟨rfl, rfl⟩
      rw [← unhide HPE]
      go_wp2_with fail
      refine (unhide KP d R _ hd hR).mono ?_
      rintro _ _ ⟨rfl, rfl⟩
      go_wp2_with fail
      refine (unhide KP a R _ ha hR).mono ?_
      rintro _ _ ⟨rfl, rfl⟩
      go_wp2_with fail
      refine (unhide KP b R _ hb hR).mono ?_
      rintro _ _ ⟨rfl, rfl⟩
      go_wp2_with fail
      rw [unhide HE]
      refine bodyPost_ret (results_cell_row rfl _ _ (w.heap.size + 1) 31 _ (0, 0) _ rfl (heap_mid w _ _ _) Tryd.underlying31 rfl Tryd.sizeIns) rfl ⟨rfl, below_three w _ _ _⟩
    · have hop : opF ⟨op, d, a, b⟩ 0 = 3 := by unfold opF; simp only; rw [← unhide HPE]; rw [if_neg (by decide)]
      have HE : Hid (insF ⟨op, d, a, b⟩ R n 0 = ⟨3, pickI d R, pickI a R, pickI b R⟩) := by unfold insF; rw [hop]; rfl
      clear hop
      go_enter Tryd.func16, Tryd.ntmps16
      go_wp2_with fail
      refine (unhide KP op 15 _ ho (by decide)).mono ?_
      rintro _ _ ⟨rfl, rfl⟩
      rw [← unhide HPE]
      go_wp2_with fail
      refine (unhide KP d R _ hd hR).mono ?_
      rintro _ _ ⟨rfl, rfl⟩
      go_wp2_with fail
      refine (unhide KP a R _ ha hR).mono ?_
      rintro _ _ ⟨rfl, rfl⟩
      go_wp2_with fail
      refine (unhide KP b R _ hb hR).mono ?_
      rintro _ _ ⟨rfl, rfl⟩
      go_wp2_with fail
      rw [unhide HE]
      refine bodyPost_ret (results_cell_row rfl _ _ (w.heap.size + 1) 31 _ (0, 0) _ rfl (heap_mid w _ _ _) Tryd.underlying31 rfl Tryd.sizeIns) rfl ⟨rfl, below_three w _ _ _⟩
    · have hop : opF ⟨op, d, a, b⟩ 0 = 4 := by unfold opF; simp only; rw [← unhide HPE]; rw [if_neg (by decide)]
      have HE : Hid (insF ⟨op, d, a, b⟩ R n 0 = ⟨4, pickI d R, pickI a R, pickI b R⟩) := by unfold insF; rw [hop]; rfl
      clear hop
      go_enter Tryd.func16, Tryd.ntmps16
      go_wp2_with fail
      refine (unhide KP op 15 _ ho (by decide)).mono ?_
      rintro _ _ ⟨rfl, rfl⟩
      rw [← unhide HPE]
      go_wp2_with fail
      refine (unhide KP d R _ hd hR).mono ?_
      rintro _ _ ⟨rfl, rfl⟩
      go_wp2_with fail
      refine (unhide KP a R _ ha hR).mono ?_
      rintro _ _ ⟨rfl, rfl⟩
      go_wp2_with fail
      refine (unhide KP b R _ hb hR).mono ?_
      rintro _ _ ⟨rfl, rfl⟩
      go_wp2_with fail
      rw [unhide HE]
      refine bodyPost_ret (results_cell_row rfl _ _ (w.heap.size + 1) 31 _ (0, 0) _ rfl (heap_mid w _ _ _) Tryd.underlying31 rfl Tryd.sizeIns) rfl ⟨rfl, below_three w _ _ _⟩
    · have hop : opF ⟨op, d, a, b⟩ 0 = 5 := by unfold opF; simp only; rw [← unhide HPE]; rw [if_neg (by decide)]
      have HE : Hid (insF ⟨op, d, a, b⟩ R n 0 = ⟨5, pickI d R, pickI a R, pickI b R⟩) := by unfold insF; rw [hop]; rfl
      clear hop
      go_enter Tryd.func16, Tryd.ntmps16
      go_wp2_with fail
      refine (unhide KP op 15 _ ho (by decide)).mono ?_
      rintro _ _ ⟨rfl, rfl⟩
      rw [← unhide HPE]
      go_wp2_with fail
      refine (unhide KP d R _ hd hR).mono ?_
      rintro _ _ ⟨rfl, rfl⟩
      go_wp2_with fail
      refine (unhide KP a R _ ha hR).mono ?_
      rintro _ _ ⟨rfl, rfl⟩
      go_wp2_with fail
      refine (unhide KP b R _ hb hR).mono ?_
      rintro _ _ ⟨rfl, rfl⟩
      go_wp2_with fail
      rw [unhide HE]
      refine bodyPost_ret (results_cell_row rfl _ _ (w.heap.size + 1) 31 _ (0, 0) _ rfl (heap_mid w _ _ _) Tryd.underlying31 rfl Tryd.sizeIns) rfl ⟨rfl, below_three w _ _ _⟩
    · have hop : opF ⟨op, d, a, b⟩ 0 = 6 := by unfold opF; simp only; rw [← unhide HPE]; rw [if_neg (by decide)]
      have HE : Hid (insF ⟨op, d, a, b⟩ R n 0 = ⟨6, pickI d R, pickI a R, pickI b R⟩) := by unfold insF; rw [hop]; rfl
      clear hop
      go_enter Tryd.func16, Tryd.ntmps16
      go_wp2_with fail
      refine (unhide KP op 15 _ ho (by decide)).mono ?_
      rintro _ _ ⟨rfl, rfl⟩
      rw [← unhide HPE]
      go_wp2_with fail
      refine (unhide KP d R _ hd hR).mono ?_
      rintro _ _ ⟨rfl, rfl⟩
      go_wp2_with fail
      refine (unhide KP a R _ ha hR).mono ?_
      rintro _ _ ⟨rfl, rfl⟩
      go_wp2_with fail
      refine (unhide KP b R _ hb hR).mono ?_
      rintro _ _ ⟨rfl, rfl⟩
      go_wp2_with fail
      rw [unhide HE]
      refine bodyPost_ret (results_cell_row rfl _ _ (w.heap.size + 1) 31 _ (0, 0) _ rfl (heap_mid w _ _ _) Tryd.underlying31 rfl Tryd.sizeIns) rfl ⟨rfl, below_three w _ _ _⟩
    · have hop : opF ⟨op, d, a, b⟩ 0 = 7 := by unfold opF; simp only; rw [← unhide HPE]; rw [if_neg (by decide)]
      have HE : Hid (insF ⟨op, d, a, b⟩ R n 0 = ⟨7, 0, pickI a n, 0⟩) := by unfold insF; rw [hop]; rfl
      clear hop
      go_enter Tryd.func16, Tryd.ntmps16
      go_wp2_with fail
      refine (unhide KP op 15 _ ho (by decide)).mono ?_
      rintro _ _ ⟨rfl, rfl⟩
      rw [← unhide HPE]
      go_wp2_with fail
      refine (unhide KP a n _ ha hn).mono ?_
      rintro _ _ ⟨rfl, rfl⟩
      go_wp2_with fail
      rw [unhide HE]
      refine bodyPost_ret (results_cell_row rfl _ _ (w.heap.size + 1) 31 _ (0, 0) _ rfl (heap_mid w _ _ _) Tryd.underlying31 rfl Tryd.sizeIns) rfl ⟨rfl, below_three w _ _ _⟩
    · have hop : opF ⟨op, d, a, b⟩ 0 = 8 := by unfold opF; simp only; rw [← unhide HPE]; rw [if_neg (by decide)]
      have HE : Hid (insF ⟨op, d, a, b⟩ R n 0 = ⟨8, 0, pickI a R, pickI b n⟩) := by unfold insF; rw [hop]; rfl
      clear hop
      go_enter Tryd.func16, Tryd.ntmps16
      go_wp2_with fail
      refine (unhide KP op 15 _ ho (by decide)).mono ?_
      rintro _ _ ⟨rfl, rfl⟩
      rw [← unhide HPE]
      go_wp2_with fail
      refine (unhide KP a R _ ha hR).mono ?_
      rintro _ _ ⟨rfl, rfl⟩
      go_wp2_with fail
      refine (unhide KP b n _ hb hn).mono ?_
      rintro _ _ ⟨rfl, rfl⟩
      go_wp2_with fail
      rw [unhide HE]
      refine bodyPost_ret (results_cell_row rfl _ _ (w.heap.size + 1) 31 _ (0, 0) _ rfl (heap_mid w _ _ _) Tryd.underlying31 rfl Tryd.sizeIns) rfl ⟨rfl, below_three w _ _ _⟩
    · have hop : opF ⟨op, d, a, b⟩ 0 = 9 := by unfold opF; simp only; rw [← unhide HPE]; rw [if_neg (by decide)]
      have HE : Hid (insF ⟨op, d, a, b⟩ R n 0 = ⟨9, 0, pickI a R, 0⟩) := by unfold insF; rw [hop]; rfl
      clear hop
      go_enter Tryd.func16, Tryd.ntmps16
      go_wp2_with fail
      refine (unhide KP op 15 _ ho (by decide)).mono ?_
      rintro _ _ ⟨rfl, rfl⟩
      rw [← unhide HPE]
      go_wp2_with fail
      refine (unhide KP a R _ ha hR).mono ?_
      rintro _ _ ⟨rfl, rfl⟩
      go_wp2_with fail
      rw [unhide HE]
      refine bodyPost_ret (results_cell_row rfl _ _ (w.heap.size + 1) 31 _ (0, 0) _ rfl (heap_mid w _ _ _) Tryd.underlying31 rfl Tryd.sizeIns) rfl ⟨rfl, below_three w _ _ _⟩
    · have hop : opF ⟨op, d, a, b⟩ 0 = 10 := by unfold opF; simp only; rw [← unhide HPE]; rw [if_neg (by decide)]
      have HE : Hid (insF ⟨op, d, a, b⟩ R n 0 = ⟨10, 0, pickI a R, 0⟩) := by unfold insF; rw [hop]; rfl
      clear hop
      go_enter Tryd.func16, Tryd.ntmps16
      go_wp2_with fail
      refine (unhide KP op 15 _ ho (by decide)).mono ?_
      rintro _ _ ⟨rfl, rfl⟩
      rw [← unhide HPE]
      go_wp2_with fail
      refine (unhide KP a R _ ha hR).mono ?_
      rintro _ _ ⟨rfl, rfl⟩
      go_wp2_with fail
      rw [unhide HE]
      refine bodyPost_ret (results_cell_row rfl _ _ (w.heap.size + 1) 31 _ (0, 0) _ rfl (heap_mid w _ _ _) Tryd.underlying31 rfl Tryd.sizeIns) rfl ⟨rfl, below_three w _ _ _⟩
    · have hop : opF ⟨op, d, a, b⟩ 0 = 11 := by unfold opF; simp only; rw [← unhide HPE]; rw [if_neg (by decide)]
      have HE : Hid (insF ⟨op, d, a, b⟩ R n 0 = ⟨11, 0, pickI a 100, 0⟩) := by unfold insF; rw [hop]; rfl
      clear hop
      go_enter Tryd.func16, Tryd.ntmps16
      go_wp2_with fail
      refine (unhide KP op 15 _ ho (by decide)).mono ?_
      rintro _ _ ⟨rfl, rfl⟩
      rw [← unhide HPE]
      go_wp2_with fail
      refine (unhide KP a 100 _ ha (by decide)).mono ?_
      rintro _ _ ⟨rfl, rfl⟩
      go_wp2_with fail
      rw [unhide HE]
      refine bodyPost_ret (results_cell_row rfl _ _ (w.heap.size + 1) 31 _ (0, 0) _ rfl (heap_mid w _ _ _) Tryd.underlying31 rfl Tryd.sizeIns) rfl ⟨rfl, below_three w _ _ _⟩
    · have hop : opF ⟨op, d, a, b⟩ 0 = 11 := by unfold opF; simp only; rw [← unhide HPE]; rw [if_pos (by decide)]
      have HE : Hid (insF ⟨op, d, a, b⟩ R n 0 = ⟨11, 0, pickI a 100, 0⟩) := by unfold insF; rw [hop]; rfl
      clear hop
      go_enter Tryd.func16, Tryd.ntmps16
      go_wp2_with fail
      refine (unhide KP op 15 _ ho (by decide)).mono ?_
      rintro _ _ ⟨rfl, rfl⟩
      rw [← unhide HPE]
      go_wp2_with fail
      refine (unhide KP a 100 _ ha (by decide)).mono ?_
      rintro _ _ ⟨rfl, rfl⟩
      go_wp2_with fail
      rw [unhide HE]
      refine bodyPost_ret (results_cell_row rfl _ _ (w.heap.size + 1) 31 _ (0, 0) _ rfl (heap_mid w _ _ _) Tryd.underlying31 rfl Tryd.sizeIns) rfl ⟨rfl, below_three w _ _ _⟩
    · have hop : opF ⟨op, d, a, b⟩ 0 = 11 := by unfold opF; simp only; rw [← unhide HPE]; rw [if_pos (by decide)]
      have HE : Hid (insF ⟨op, d, a, b⟩ R n 0 = ⟨11, 0, pickI a 100, 0⟩) := by unfold insF; rw [hop]; rfl
      clear hop
      go_enter Tryd.func16, Tryd.ntmps16
      go_wp2_with fail
      refine (unhide KP op 15 _ ho (by decide)).mono ?_
      rintro _ _ ⟨rfl, rfl⟩
      rw [← unhide HPE]
      go_wp2_with fail
      refine (unhide KP a 100 _ ha (by decide)).mono ?_
      rintro _ _ ⟨rfl, rfl⟩
      go_wp2_with fail
      rw [unhide HE]
      refine bodyPost_ret (results_cell_row rfl _ _ (w.heap.size + 1) 31 _ (0, 0) _ rfl (heap_mid w _ _ _) Tryd.underlying31 rfl Tryd.sizeIns) rfl ⟨rfl, below_three w _ _ _⟩
    · have hop : opF ⟨op, d, a, b⟩ 0 = 11 := by unfold opF; simp only; rw [← unhide HPE]; rw [if_pos (by decide)]
      have HE : Hid (insF ⟨op, d, a, b⟩ R n 0 = ⟨11, 0, pickI a 100, 0⟩) := by unfold insF; rw [hop]; rfl
      clear hop
      go_enter Tryd.func16, Tryd.ntmps16
      go_wp2_with fail
      refine (unhide KP op 15 _ ho (by decide)).mono ?_
      rintro _ _ ⟨rfl, rfl⟩
      rw [← unhide HPE]
      go_wp2_with fail
      refine (unhide KP a 100 _ ha (by decide)).mono ?_
      rintro _ _ ⟨rfl, rfl⟩
      go_wp2_with fail
      rw [unhide HE]
      refine bodyPost_ret (results_cell_row rfl _ _ (w.heap.size + 1) 31 _ (0, 0) _ rfl (heap_mid w _ _ _) Tryd.underlying31 rfl Tryd.sizeIns) rfl ⟨rfl, below_three w _ _ _⟩
  · have hV1 : 0 < V := by omega
    rcases (show p = 0 ∨ p = 1 ∨ p = 2 ∨ p = 3 ∨ p = 4 ∨ p = 5 ∨ p = 6 ∨ p = 7 ∨ p = 8 ∨ p = 9 ∨ p = 10 ∨ p = 11 ∨ p = 12 ∨ p = 13 ∨ p = 14 by omega) with rfl | rfl | rfl | rfl | rfl | rfl | rfl | rfl | rfl | rfl | rfl | rfl | rfl | rfl | rfl
    · have hop : opF ⟨op, d, a, b⟩ V = 0 := by unfold opF; simp only; rw [← unhide HPE]; rw [if_neg (fun h => hv h.1)]
      have HE : Hid (insF ⟨op, d, a, b⟩ R n V = ⟨0, pickI d R, pickI a 65536, 0⟩) := by unfold insF; rw [hop]; rfl
      clear hop
      go_enter Tryd.func16, Tryd.ntmps16
      go_wp2_with fail
      refine (unhide KP op 15 _ ho (by decide)).mono ?_
      rintro _ _ ⟨rfl, rfl⟩
      rw [← unhide HPE]
      go_wp2_with fail
      refine (unhide KP d R _ hd hR).mono ?_
      rintro _ _ ⟨rfl, rfl⟩
      go_wp2_with fail
      refine (unhide KP a 65536 _ ha (by decide)).mono ?_
      rintro _ _ ⟨rfl, rfl⟩
      go_wp2_with fail
      rw [unhide HE]
      refine bodyPost_ret (results_cell_row rfl _ _ (w.heap.size + 1) 31 _ (0, 0) _ rfl (heap_mid w _ _ _) Tryd.underlying31 rfl Tryd.sizeIns) rfl ⟨rfl, below_three w _ _ _⟩
    · have hop : opF ⟨op, d, a, b⟩ V = 1 := by unfold opF; simp only; rw [← unhide HPE]; rw [if_neg (fun h => hv h.1)]
      have HE : Hid (insF ⟨op, d, a, b⟩ R n V = ⟨1, pickI d R, pickI a R, 0⟩) := by unfold insF; rw [hop]; rfl
      clear hop
      go_enter Tryd.func16, Tryd.ntmps16
      go_wp2_with fail
      refine (unhide KP op 15 _ ho (by decide)).mono ?_
      rintro _ _ ⟨rfl, rfl⟩
      rw [← unhide HPE]
      go_wp2_with fail
      refine (unhide KP d R _ hd hR).mono ?_
      rintro _ _ ⟨rfl, rfl⟩
      go_wp2_with fail
      refine (unhide KP a R _ ha hR).mono ?_
      rintro _ _ ⟨rfl, rfl⟩
      go_wp2_with fail
      rw [unhide HE]
      refine bodyPost_ret (results_cell_row rfl _ _ (w.heap.size + 1) 31 _ (0, 0) _ rfl (heap_mid w _ _ _) Tryd.underlying31 rfl Tryd.sizeIns) rfl ⟨rfl, below_three w _ _ _⟩
    · have hop : opF ⟨op, d, a, b⟩ V = 2 := by unfold opF; simp only; rw [← unhide HPE]; rw [if_neg (fun h => hv h.1)]
      have HE : Hid (insF ⟨op, d, a, b⟩ R n V = ⟨2, pickI d R, pickI a R, pickI b R⟩) := by unfold insF; rw [hop]; rfl
      clear hop
      go_enter Tryd.func16, Tryd.ntmps16
      go_wp2_with fail
      refine (unhide KP op 15 _ ho (by decide)).mono ?_
      rintro _ _ ⟨rfl, rfl⟩
      rw [← unhide HPE]
      go_wp2_with fail
      refine (unhide KP d R _ hd hR).mono ?_
      rintro _ _ ⟨rfl, rfl⟩
      go_wp2_with fail
      refine (unhide KP a R _ ha hR).mono ?_
      rintro _ _ ⟨rfl, rfl⟩
      go_wp2_with fail
      refine (unhide KP b R _ hb hR).mono ?_
      rintro _ _ ⟨rfl, rfl⟩
      go_wp2_with fail
      rw [unhide HE]
      refine bodyPost_ret (results_cell_row rfl _ _ (w.heap.size + 1) 31 _ (0, 0) _ rfl (heap_mid w _ _ _) Tryd.underlying31 rfl Tryd.sizeIns) rfl ⟨rfl, below_three w _ _ _⟩
    · have hop : opF ⟨op, d, a, b⟩ V = 3 := by unfold opF; simp only; rw [← unhide HPE]; rw [if_neg (fun h => hv h.1)]
      have HE : Hid (insF ⟨op, d, a, b⟩ R n V = ⟨3, pickI d R, pickI a R, pickI b R⟩) := by unfold insF; rw [hop]; rfl
      clear hop
      go_enter Tryd.func16, Tryd.ntmps16
      go_wp2_with fail
      refine (unhide KP op 15 _ ho (by decide)).mono ?_
      rintro _ _ ⟨rfl, rfl⟩
      rw [← unhide HPE]
      go_wp2_with fail
      refine (unhide KP d R _ hd hR).mono ?_
      rintro _ _ ⟨rfl, rfl⟩
      go_wp2_with fail
      refine (unhide KP a R _ ha hR).mono ?_
      rintro _ _ ⟨rfl, rfl⟩
      go_wp2_with fail
      refine (unhide KP b R _ hb hR).mono ?_
      rintro _ _ ⟨rfl, rfl⟩
      go_wp2_with fail
      rw [unhide HE]
      refine bodyPost_ret (results_cell_row rfl _ _ (w.heap.size + 1) 31 _ (0, 0) _ rfl (heap_mid w _ _ _) Tryd.underlying31 rfl Tryd.sizeIns) rfl ⟨rfl, below_three w _ _ _⟩
    · have hop : opF ⟨op, d, a, b⟩ V = 4 := by unfold opF; simp only; rw [← unhide HPE]; rw [if_neg (fun h => hv h.1)]
      have HE : Hid (insF ⟨op, d, a, b⟩ R n V = ⟨4, pickI d R, pickI a R, pickI b R⟩) := by unfold insF; rw [hop]; rfl
      clear hop
      go_enter Tryd.func16, Tryd.ntmps16
      go_wp2_with fail
      refine (unhide KP op 15 _ ho (by decide)).mono ?_
      rintro _ _ ⟨rfl, rfl⟩
      rw [← unhide HPE]
      go_wp2_with fail
      refine (unhide KP d R _ hd hR).mono ?_
      rintro _ _ ⟨rfl, rfl⟩
      go_wp2_with fail
      refine (unhide KP a R _ ha hR).mono ?_
      rintro _ _ ⟨rfl, rfl⟩
      go_wp2_with fail
      refine (unhide KP b R _ hb hR).mono ?_
      rintro _ _ ⟨rfl, rfl⟩
      go_wp2_with fail
      rw [unhide HE]
      refine bodyPost_ret (results_cell_row rfl _ _ (w.heap.size + 1) 31 _ (0, 0) _ rfl (heap_mid w _ _ _) Tryd.underlying31 rfl Tryd.sizeIns) rfl ⟨rfl, below_three w _ _ _⟩
    · have hop : opF ⟨op, d, a, b⟩ V = 5 := by unfold opF; simp only; rw [← unhide HPE]; rw [if_neg (fun h => hv h.1)]
      have HE : Hid (insF ⟨op, d, a, b⟩ R n V = ⟨5, pickI d R, pickI a R, pickI b R⟩) := by unfold insF; rw [hop]; rfl
      clear hop
      go_enter Tryd.func16, Tryd.ntmps16
      go_wp2_with fail
      refine (unhide KP op 15 _ ho (by decide)).mono ?_
      rintro _ _ ⟨rfl, rfl⟩
      rw [← unhide HPE]
      go_wp2_with fail
      refine (unhide KP d R _ hd hR).mono ?_
      rintro _ _ ⟨rfl, rfl⟩
      go_wp2_with fail
      refine (unhide KP a R _ ha hR).mono ?_
      rintro _ _ ⟨rfl, rfl⟩
      go_wp2_with fail
      refine (unhide KP b R _ hb hR).mono ?_
      rintro _ _ ⟨rfl, rfl⟩
      go_wp2_with fail
      rw [unhide HE]
      refine bodyPost_ret (results_cell_row rfl _ _ (w.heap.size + 1) 31 _ (0, 0) _ rfl (heap_mid w _ _ _) Tryd.underlying31 rfl Tryd.sizeIns) rfl ⟨rfl, below_three w _ _ _⟩
    · have hop : opF ⟨op, d, a, b⟩ V = 6 := by unfold opF; simp only; rw [← unhide HPE]; rw [if_neg (fun h => hv h.1)]
      have HE : Hid (insF ⟨op, d, a, b⟩ R n V = ⟨6, pickI d R, pickI a R, pickI b R⟩) := by unfold insF; rw [hop]; rfl
      clear hop
      go_enter Tryd.func16, Tryd.ntmps16
      go_wp2_with fail
      refine (unhide KP op 15 _ ho (by decide)).mono ?_
      rintro _ _ ⟨rfl, rfl⟩
      rw [← unhide HPE]
      go_wp2_with fail
      refine (unhide KP d R _ hd hR).mono ?_
      rintro _ _ ⟨rfl, rfl⟩
      go_wp2_with fail
      refine (unhide KP a R _ ha hR).mono ?_
      rintro _ _ ⟨rfl, rfl⟩
      go_wp2_with fail
      refine (unhide KP b R _ hb hR).mono ?_
      rintro _ _ ⟨rfl, rfl⟩
      go_wp2_with fail
      rw [unhide HE]
      refine bodyPost_ret (results_cell_row rfl _ _ (w.heap.size + 1) 31 _ (0, 0) _ rfl (heap_mid w _ _ _) Tryd.underlying31 rfl Tryd.sizeIns) rfl ⟨rfl, below_three w _ _ _⟩
    · have hop : opF ⟨op, d, a, b⟩ V = 7 := by unfold opF; simp only; rw [← unhide HPE]; rw [if_neg (fun h => hv h.1)]
      have HE : Hid (insF ⟨op, d, a, b⟩ R n V = ⟨7, 0, pickI a n, 0⟩) := by unfold insF; rw [hop]; rfl
      clear hop
      go_enter Tryd.func16, Tryd.ntmps16
      go_wp2_with fail
      refine (unhide KP op 15 _ ho (by decide)).mono ?_
      rintro _ _ ⟨rfl, rfl⟩
      rw [← unhide HPE]
      go_wp2_with fail
      refine (unhide KP a n _ ha hn).mono ?_
      rintro _ _ ⟨rfl, rfl⟩
      go_wp2_with fail
      rw [unhide HE]
      refine bodyPost_ret (results_cell_row rfl _ _ (w.heap.size + 1) 31 _ (0, 0) _ rfl (heap_mid w _ _ _) Tryd.underlying31 rfl Tryd.sizeIns) rfl ⟨rfl, below_three w _ _ _⟩
    · have hop : opF ⟨op, d, a, b⟩ V = 8 := by unfold opF; simp only; rw [← unhide HPE]; rw [if_neg (fun h => hv h.1)]
      have HE : Hid (insF ⟨op, d, a, b⟩ R n V = ⟨8, 0, pickI a R, pickI b n⟩) := by unfold insF; rw [hop]; rfl
      clear hop
      go_enter Tryd.func16, Tryd.ntmps16
      go_wp2_with fail
      refine (unhide KP op 15 _ ho (by decide)).mono ?_
      rintro _ _ ⟨rfl, rfl⟩
      rw [← unhide HPE]
      go_wp2_with fail
      refine (unhide KP a R _ ha hR).mono ?_
      rintro _ _ ⟨rfl, rfl⟩
      go_wp2_with fail
      refine (unhide KP b n _ hb hn).mono ?_
      rintro _ _ ⟨rfl, rfl⟩
      go_wp2_with fail
      rw [unhide HE]
      refine bodyPost_ret (results_cell_row rfl _ _ (w.heap.size + 1) 31 _ (0, 0) _ rfl (heap_mid w _ _ _) Tryd.underlying31 rfl Tryd.sizeIns) rfl ⟨rfl, below_three w _ _ _⟩
    · have hop : opF ⟨op, d, a, b⟩ V = 9 := by unfold opF; simp only; rw [← unhide HPE]; rw [if_neg (fun h => hv h.1)]
      have HE : Hid (insF ⟨op, d, a, b⟩ R n V = ⟨9, 0, pickI a R, 0⟩) := by unfold insF; rw [hop]; rfl
      clear hop
      go_enter Tryd.func16, Tryd.ntmps16
      go_wp2_with fail
      refine (unhide KP op 15 _ ho (by decide)).mono ?_
      rintro _ _ ⟨rfl, rfl⟩
      rw [← unhide HPE]
      go_wp2_with fail
      refine (unhide KP a R _ ha hR).mono ?_
      rintro _ _ ⟨rfl, rfl⟩
      go_wp2_with fail
      rw [unhide HE]
      refine bodyPost_ret (results_cell_row rfl _ _ (w.heap.size + 1) 31 _ (0, 0) _ rfl (heap_mid w _ _ _) Tryd.underlying31 rfl Tryd.sizeIns) rfl ⟨rfl, below_three w _ _ _⟩
    · have hop : opF ⟨op, d, a, b⟩ V = 10 := by unfold opF; simp only; rw [← unhide HPE]; rw [if_neg (fun h => hv h.1)]
      have HE : Hid (insF ⟨op, d, a, b⟩ R n V = ⟨10, 0, pickI a R, 0⟩) := by unfold insF; rw [hop]; rfl
      clear hop
      go_enter Tryd.func16, Tryd.ntmps16
      go_wp2_with fail
      refine (unhide KP op 15 _ ho (by decide)).mono ?_
      rintro _ _ ⟨rfl, rfl⟩
      rw [← unhide HPE]
      go_wp2_with fail
      refine (unhide KP a R _ ha hR).mono ?_
      rintro _ _ ⟨rfl, rfl⟩
      go_wp2_with fail
      rw [unhide HE]
      refine bodyPost_ret (results_cell_row rfl _ _ (w.heap.size + 1) 31 _ (0, 0) _ rfl (heap_mid w _ _ _) Tryd.underlying31 rfl Tryd.sizeIns) rfl ⟨rfl, below_three w _ _ _⟩
    · have hop : opF ⟨op, d, a, b⟩ V = 11 := by unfold opF; simp only; rw [← unhide HPE]; rw [if_neg (fun h => hv h.1)]
      have HE : Hid (insF ⟨op, d, a, b⟩ R n V = ⟨11, 0, pickI a 100, 0⟩) := by unfold insF; rw [hop]; rfl
      clear hop
      go_enter Tryd.func16, Tryd.ntmps16
      go_wp2_with fail
      refine (unhide KP op 15 _ ho (by decide)).mono ?_
      rintro _ _ ⟨rfl, rfl⟩
      rw [← unhide HPE]
      go_wp2_with fail
      refine (unhide KP a 100 _ ha (by decide)).mono ?_
      rintro _ _ ⟨rfl, rfl⟩
      go_wp2_with fail
      rw [unhide HE]
      refine bodyPost_ret (results_cell_row rfl _ _ (w.heap.size + 1) 31 _ (0, 0) _ rfl (heap_mid w _ _ _) Tryd.underlying31 rfl Tryd.sizeIns) rfl ⟨rfl, below_three w _ _ _⟩
    · have hop : opF ⟨op, d, a, b⟩ V = 12 := by unfold opF; simp only; rw [← unhide HPE]; rw [if_neg (fun h => hv h.1)]
      have HE : Hid (insF ⟨op, d, a, b⟩ R n V = ⟨12, pickI d V, pickI a R, 0⟩) := by unfold insF; rw [hop]; rfl
      clear hop
      go_enter Tryd.func16, Tryd.ntmps16
      go_wp2_with fail
      refine (unhide KP op 15 _ ho (by decide)).mono ?_
      rintro _ _ ⟨rfl, rfl⟩
      rw [← unhide HPE]
      go_wp2_with fail
      refine (unhide KP d V _ hd hV1).mono ?_
      rintro _ _ ⟨rfl, rfl⟩
      go_wp2_with fail
      refine (unhide KP a R _ ha hR).mono ?_
      rintro _ _ ⟨rfl, rfl⟩
      go_wp2_with fail
      rw [unhide HE]
      refine bodyPost_ret (results_cell_row rfl _ _ (w.heap.size + 1) 31 _ (0, 0) _ rfl (heap_mid w _ _ _) Tryd.underlying31 rfl Tryd.sizeIns) rfl ⟨rfl, below_three w _ _ _⟩
    · have hop : opF ⟨op, d, a, b⟩ V = 13 := by unfold opF; simp only; rw [← unhide HPE]; rw [if_neg (fun h => hv h.1)]
      have HE : Hid (insF ⟨op, d, a, b⟩ R n V = ⟨13, pickI d V, pickI a 65536, 0⟩) := by unfold insF; rw [hop]; rfl
      clear hop
      go_enter Tryd.func16, Tryd.ntmps16
      go_wp2_with fail
      refine (unhide KP op 15 _ ho (by decide)).mono ?_
      rintro _ _ ⟨rfl, rfl⟩
      rw [← unhide HPE]
      go_wp2_with fail
      refine (unhide KP d V _ hd hV1).mono ?_
      rintro _ _ ⟨rfl, rfl⟩
      go_wp2_with fail
      refine (unhide KP a 65536 _ ha (by decide)).mono ?_
      rintro _ _ ⟨rfl, rfl⟩
      go_wp2_with fail
      rw [unhide HE]
      refine bodyPost_ret (results_cell_row rfl _ _ (w.heap.size + 1) 31 _ (0, 0) _ rfl (heap_mid w _ _ _) Tryd.underlying31 rfl Tryd.sizeIns) rfl ⟨rfl, below_three w _ _ _⟩
    · have hop : opF ⟨op, d, a, b⟩ V = 14 := by unfold opF; simp only; rw [← unhide HPE]; rw [if_neg (fun h => hv h.1)]
      have HE : Hid (insF ⟨op, d, a, b⟩ R n V = ⟨14, pickI d V, 0, 0⟩) := by unfold insF; rw [hop]; rfl
      clear hop
      go_enter Tryd.func16, Tryd.ntmps16
      go_wp2_with fail
      refine (unhide KP op 15 _ ho (by decide)).mono ?_
      rintro _ _ ⟨rfl, rfl⟩
      rw [← unhide HPE]
      go_wp2_with fail
      refine (unhide KP d V _ hd hV1).mono ?_
      rintro _ _ ⟨rfl, rfl⟩
      go_wp2_with fail
      rw [unhide HE]
      refine bodyPost_ret (results_cell_row rfl _ _ (w.heap.size + 1) 31 _ (0, 0) _ rfl (heap_mid w _ _ _) Tryd.underlying31 rfl Tryd.sizeIns) rfl ⟨rfl, below_three w _ _ _⟩
end Go.Proofs.YtoepcplbpochpabDoor
