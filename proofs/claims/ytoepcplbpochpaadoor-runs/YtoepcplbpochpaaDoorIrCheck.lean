/-
  What ir.Check answers of a program: the error and the place that the document's own check tells.
-/
import Derived.Test.YtoepcplbpochpaaDoorCodeCheck
namespace Go.Proofs.YtoepcplbpochpaaDoor
open Go.RowKit

def sizeB (P R V : Int) (n : Nat) : Bool := @ite _ (SizeBad P R V n) (decSize P R V n) false true
theorem sizeB_bad {P R V : Int} {n : Nat} (h : SizeBad P R V n) : sizeB P R V n = false := @if_pos _ (decSize _ _ _ _) h _ _ _
theorem sizeB_good {P R V : Int} {n : Nat} (h : ¬ SizeBad P R V n) : sizeB P R V n = true := @if_neg _ (decSize _ _ _ _) h _ _ _

set_option maxRecDepth 100000 in
set_option maxHeartbeats 2000000 in
theorem isSize_any (P R V : Int) (L : List In4) (ao : Option Addr) (cap : Nat) (w : World) (hn : L.length ≤ 9223372036854775807) :
    Calls Tryd.prog 41 #[.agg #[.int .i64 P, .int .i64 R, .int .i64 V, .slice ao L.length cap]] w fun e w' =>
      e = .returned (.bool (sizeB P R V L.length)) ∧ Below w.heap.size w w' := by
  by_cases hs : SizeBad P R V L.length
  · have HS := hide (sizeB_bad hs)
    have hcases : R < 1 ∨ (1 ≤ R ∧ 12 < R) ∨ (1 ≤ R ∧ R ≤ 12 ∧ P < 0) ∨ (1 ≤ R ∧ R ≤ 12 ∧ 0 ≤ P ∧ 4 < P) ∨ (1 ≤ R ∧ R ≤ 12 ∧ 0 ≤ P ∧ P ≤ 4 ∧ R < P) ∨ (1 ≤ R ∧ R ≤ 12 ∧ 0 ≤ P ∧ P ≤ 4 ∧ P ≤ R ∧ V < 0) ∨ (1 ≤ R ∧ R ≤ 12 ∧ 0 ≤ P ∧ P ≤ 4 ∧ P ≤ R ∧ 0 ≤ V ∧ 4 < V) ∨ (1 ≤ R ∧ R ≤ 12 ∧ 0 ≤ P ∧ P ≤ 4 ∧ P ≤ R ∧ 0 ≤ V ∧ V ≤ 4 ∧ L.length < 1) ∨ (1 ≤ R ∧ R ≤ 12 ∧ 0 ≤ P ∧ P ≤ 4 ∧ P ≤ R ∧ 0 ≤ V ∧ V ≤ 4 ∧ 1 ≤ L.length ∧ 40 < L.length) := by
      unfold SizeBad at hs; omega
    clear hs
    rcases hcases with h | ⟨g1, h⟩ | ⟨g1, g2, h⟩ | ⟨g1, g2, g3, h⟩ | ⟨g1, g2, g3, g4, h⟩ | ⟨g1, g2, g3, g4, g5, h⟩ | ⟨g1, g2, g3, g4, g5, g6, h⟩ | ⟨g1, g2, g3, g4, g5, g6, g7, h⟩ | ⟨g1, g2, g3, g4, g5, g6, g7, g8, h⟩
    all_goals
      go_enter Tryd.func41, Tryd.ntmps41
      go_wp2
      go_ret
      refine ⟨ret_bool ?_, (Below.refl _ _).alloc (Nat.le_refl _) _⟩
      rw [unhide HS]
      try (simp; omega)
  · have HS := hide (sizeB_good hs)
    unfold SizeBad at hs
    obtain ⟨g1, g2, g3, g4, g5, g6, g7, g8, g9⟩ : 1 ≤ R ∧ R ≤ 12 ∧ 0 ≤ P ∧ P ≤ 4 ∧ P ≤ R ∧ 0 ≤ V ∧ V ≤ 4 ∧ 1 ≤ L.length ∧ L.length ≤ 40 := by omega
    clear hs
    go_enter Tryd.func41, Tryd.ntmps41
    go_wp2
    go_ret
    refine ⟨ret_bool ?_, (Below.refl _ _).alloc (Nat.le_refl _) _⟩
    rw [unhide HS]
    try (simp; omega)

set_option maxRecDepth 100000 in
set_option maxHeartbeats 2000000 in
theorem irCheck_any (P R V : Int) (L : List In4) (ao : Option Addr) (cap : Nat) (w : World) (hH : HeldIns w ao L) (hn : L.length ≤ 9223372036854775807) (hT : Tab w) (hw0 : 0 < w.heap.size) :
    Calls Tryd.prog 11 #[.agg #[.int .i64 P, .int .i64 R, .int .i64 V, .slice ao L.length cap]] w fun e w' =>
      e = .returned (.tuple #[.int .i64 (progE P R V L).1, .int .i64 (progE P R V L).2]) ∧ Below w.heap.size w w' := by
  have KS := hide (fun w => isSize_any P R V L ao cap w hn)
  by_cases hs : SizeBad P R V L.length
  · have he := hide (progE_bad (L := L) hs)
    rw [sizeB_bad hs] at KS
    clear hs hT
    go_enter Tryd.func11, Tryd.ntmps11
    go_wp2_with (go_at_call 41; refine (unhide KS _).mono ?_; rintro e w2 ⟨rfl, hb2⟩)
    go_ret2
    exact ⟨ret2 (by rw [unhide he]) (by rw [unhide he]), ((Below.refl _ _).alloc (Nat.le_refl _) _).trans (hb2.mono (by simp))⟩
  have he := hide (progE_good (L := L) hs)
  rw [sizeB_good hs] at KS
  unfold SizeBad at hs
  have g8 : 1 ≤ L.length := by omega
  have KC := hide (fun w (hH : HeldIns w ao L) (hT : Tab w) (hw0 : 0 < w.heap.size) => codeCheck_any false R V 0 L ao cap w hH g8 hn hT hw0)
  rw [show (!false) = true from rfl, ← unhide he] at KC
  have HH := hide hH
  have HT := hide hT
  clear hs hH hT he g8
  go_enter Tryd.func11, Tryd.ntmps11
  go_wp2_with fail
  obtain ⟨w1, hw1⟩ : ∃ w1, w1 = w.alloc (.cells #[.int .i64 P, .int .i64 R, .int .i64 V, .slice ao L.length cap] 24) := ⟨_, rfl⟩
  rw [← hw1]
  have p1 : w1.cell? ⟨w.heap.size, 1, none⟩ = some (.int .i64 R) := by rw [hw1, World.cell?_alloc_at (hn := rfl)]; rfl
  have p2 : w1.cell? ⟨w.heap.size, 2, none⟩ = some (.int .i64 V) := by rw [hw1, World.cell?_alloc_at (hn := rfl)]; rfl
  have p3 : w1.cell? ⟨w.heap.size, 3, none⟩ = some (.slice ao L.length cap) := by rw [hw1, World.cell?_alloc_at (hn := rfl)]; rfl
  have hbel : Below w.heap.size w w1 := by rw [hw1]; exact (Below.refl _ _).alloc (Nat.le_refl _) _
  have hz : w.heap.size < w1.heap.size := by rw [hw1]; simp
  clear hw1
  refine (unhide KS w1).mono ?_
  rintro e w2 ⟨rfl, hb2⟩
  have hz2 : w.heap.size < w2.heap.size := Nat.lt_of_lt_of_le hz hb2.size
  have q1 := (hb2.cell (p := ⟨w.heap.size, 1, none⟩) hz).trans p1
  have q2 := (hb2.cell (p := ⟨w.heap.size, 2, none⟩) hz).trans p2
  have q3 := (hb2.cell (p := ⟨w.heap.size, 3, none⟩) hz).trans p3
  have HB2 : Hid (Below w.heap.size w w2) := hide (hbel.trans (hb2.mono (Nat.le_of_lt hz)))
  clear hb2 hbel p1 p2 p3
  go_wp2_with fail
  refine (unhide KC w2 ((unhide HH).below (unhide HB2)) ((unhide HT).below (unhide HB2) hw0) (by omega)).mono ?_
  rintro e w3 ⟨rfl, hb3⟩
  have HB3 : Hid (Below w.heap.size w w3) := hide ((unhide HB2).trans (hb3.mono (Nat.le_of_lt hz2)))
  clear hb3
  go_wp2_with fail
  go_ret2
  exact ⟨rfl, unhide HB3⟩
end Go.Proofs.YtoepcplbpochpaaDoor
