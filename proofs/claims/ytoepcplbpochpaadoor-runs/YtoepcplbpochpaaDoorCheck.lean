/-
  What lodgeref.CheckProg computes: the error of a program, and its place.
-/
import Derived.Test.YtoepcplbpochpaaDoorCoded
import Derived.Deep.RegionHeld3
namespace Go.Proofs.YtoepcplbpochpaaDoor
open Go.RowKit

set_option maxRecDepth 100000 in
set_option maxHeartbeats 2000000 in
theorem checkProg_good (P R V : Int) (L : List In4) (ao : Option Addr) (cap : Nat) (w : World) (hH : HeldIns w ao L) (hs : ¬ SizeBad P R V L.length) :
    Calls Tryd.prog 12 #[.agg #[.int .i64 P, .int .i64 R, .int .i64 V, .slice ao L.length cap]] w fun e w' =>
      e = .returned (.tuple #[.int .i64 (progE P R V L).1, .int .i64 (progE P R V L).2]) ∧ Below w.heap.size w w' := by
  have he := hide (progE_good (L := L) hs)
  unfold SizeBad at hs
  obtain ⟨g1, g2, g3, g4, g5, g6, g7, g8, g9⟩ : 1 ≤ R ∧ R ≤ 12 ∧ 0 ≤ P ∧ P ≤ 4 ∧ P ≤ R ∧ 0 ≤ V ∧ V ≤ 4 ∧ 1 ≤ L.length ∧ L.length ≤ 40 := by omega
  obtain ⟨b, off, rfl, hb, hL⟩ : ∃ b off, ao = some ⟨b, off, none⟩ ∧ b < w.heap.size ∧ LieI w b off L := by
    rcases hH with h | h
    · subst h; exact absurd g8 (by simp)
    · exact h
  clear hs hH
  have HL := hide hL
  clear hL
  go_enter Tryd.func12, Tryd.ntmps12
  go_wp2_with fail
  obtain ⟨w1, hw1⟩ : ∃ w1, w1 = w.alloc (.cells #[.int .i64 P, .int .i64 R, .int .i64 V, .slice (some ⟨b, off, none⟩) L.length cap] 24) := ⟨_, rfl⟩
  rw [← hw1]
  have p1 : w1.cell? ⟨w.heap.size, 1, none⟩ = some (.int .i64 R) := by rw [hw1, World.cell?_alloc_at (hn := rfl)]; rfl
  have p2 : w1.cell? ⟨w.heap.size, 2, none⟩ = some (.int .i64 V) := by rw [hw1, World.cell?_alloc_at (hn := rfl)]; rfl
  have p3 : w1.cell? ⟨w.heap.size, 3, none⟩ = some (.slice (some ⟨b, off, none⟩) L.length cap) := by rw [hw1, World.cell?_alloc_at (hn := rfl)]; rfl
  have hbel : Below w.heap.size w w1 := by rw [hw1]; exact (Below.refl _ _).alloc (Nat.le_refl _) _
  have hz : w.heap.size < w1.heap.size := by rw [hw1]; simp
  clear hw1
  go_region_held3 (fun w' => w'.cell? ⟨w.heap.size, 1, none⟩ = some (.int .i64 R) ∧ w'.cell? ⟨w.heap.size, 2, none⟩ = some (.int .i64 V) ∧ w'.cell? ⟨w.heap.size, 3, none⟩ = some (.slice (some ⟨b, off, none⟩) L.length cap)) (simp [*])
    (first
      | (go_at_call 44; refine (ops_any true _).mono ?_; rintro e w2 ⟨rfl, hw2⟩; have hb2 : Below w1.heap.size w1.drew w2 := (by rw [hw2]; exact (Below.refl w1.heap.size w1.drew).alloc (Nat.le_refl _) _); have hs2 : w1.heap.size ≤ w2.heap.size := hb2.size; have hg2 : w2.heap[w1.heap.size]? = some (.cells (opsA true) 4 (0, 0)) := (by rw [hw2]; exact Array.getElem?_push_size); have q1 := (hb2.cell (p := ⟨w.heap.size, 1, none⟩) hz).trans p1; have q2 := (hb2.cell (p := ⟨w.heap.size, 2, none⟩) hz).trans p2; have q3 := (hb2.cell (p := ⟨w.heap.size, 3, none⟩) hz).trans p3; have HB2 : Hid (Below w.heap.size w w2) := hide ((hbel.drew).trans (hb2.mono (Nat.le_of_lt hz))); have HG2 := hide hg2; clear hw2 hb2 hg2)
      | (go_at_call 43; refine (coded_any true L b off cap w1.heap.size R V 0 _ ?_ ?_ ?_ ?_ ?_).mono ?_; exact (unhide HL).below (unhide HB2) hb; exact Nat.lt_of_lt_of_le hb (unhide HB2).size; exact unhide HG2; omega; omega; rintro e w3 ⟨rfl, hb3⟩; have HB3 : Hid (Below w.heap.size w w3) := hide ((unhide HB2).trans (hb3.mono (unhide HB2).size)); have hz3 : w.heap.size < w2.heap.size := Nat.lt_of_lt_of_le hz hs2; have r1 := (hb3.cell (p := ⟨w.heap.size, 1, none⟩) hz3).trans q1; have r2 := (hb3.cell (p := ⟨w.heap.size, 2, none⟩) hz3).trans q2; have r3 := (hb3.cell (p := ⟨w.heap.size, 3, none⟩) hz3).trans q3; clear hb3))
  go_wp2
  go_ret2
  exact ⟨ret2 (by rw [unhide he]) (by rw [unhide he]), unhide (by assumption)⟩

set_option maxRecDepth 100000 in
set_option maxHeartbeats 2000000 in
theorem checkProg_any (P R V : Int) (L : List In4) (ao : Option Addr) (cap : Nat) (w : World) (hH : HeldIns w ao L) (hn : L.length ≤ 9223372036854775807) :
    Calls Tryd.prog 12 #[.agg #[.int .i64 P, .int .i64 R, .int .i64 V, .slice ao L.length cap]] w fun e w' =>
      e = .returned (.tuple #[.int .i64 (progE P R V L).1, .int .i64 (progE P R V L).2]) ∧ Below w.heap.size w w' := by
  by_cases hs : SizeBad P R V L.length
  · have he := hide (progE_bad (L := L) hs)
    have hcases : R < 1 ∨ (1 ≤ R ∧ 12 < R) ∨ (1 ≤ R ∧ R ≤ 12 ∧ P < 0) ∨ (1 ≤ R ∧ R ≤ 12 ∧ 0 ≤ P ∧ 4 < P) ∨ (1 ≤ R ∧ R ≤ 12 ∧ 0 ≤ P ∧ P ≤ 4 ∧ R < P) ∨ (1 ≤ R ∧ R ≤ 12 ∧ 0 ≤ P ∧ P ≤ 4 ∧ P ≤ R ∧ V < 0) ∨ (1 ≤ R ∧ R ≤ 12 ∧ 0 ≤ P ∧ P ≤ 4 ∧ P ≤ R ∧ 0 ≤ V ∧ 4 < V) ∨ (1 ≤ R ∧ R ≤ 12 ∧ 0 ≤ P ∧ P ≤ 4 ∧ P ≤ R ∧ 0 ≤ V ∧ V ≤ 4 ∧ L.length < 1) ∨ (1 ≤ R ∧ R ≤ 12 ∧ 0 ≤ P ∧ P ≤ 4 ∧ P ≤ R ∧ 0 ≤ V ∧ V ≤ 4 ∧ 1 ≤ L.length ∧ 40 < L.length) := by
      unfold SizeBad at hs; omega
    clear hs
    rcases hcases with h | ⟨g1, h⟩ | ⟨g1, g2, h⟩ | ⟨g1, g2, g3, h⟩ | ⟨g1, g2, g3, g4, h⟩ | ⟨g1, g2, g3, g4, g5, h⟩ | ⟨g1, g2, g3, g4, g5, g6, h⟩ | ⟨g1, g2, g3, g4, g5, g6, g7, h⟩ | ⟨g1, g2, g3, g4, g5, g6, g7, g8, h⟩
    all_goals
      go_enter Tryd.func12, Tryd.ntmps12
      go_wp2
      go_ret2
      exact ⟨ret2 (by rw [unhide he]) (by rw [unhide he]), (Below.refl _ _).alloc (Nat.le_refl _) _⟩
  · exact checkProg_good P R V L ao cap w hH hs
end Go.Proofs.YtoepcplbpochpaaDoor
