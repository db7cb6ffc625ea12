/-
  Lists of what was seen at Stops, in memory; what a run owns is held.
-/
import Derived.Test.YtoepcplbpochpaaDoorState
namespace Go.Proofs.YtoepcplbpochpaaDoor
open Go.RowKit

/-- A list of what was seen lies somewhere. -/
def snAt (l : List Sn) (i : Nat) : Sn := l.getD i ⟨0, 0, 0, 0, 0⟩
def Sn.v (x : Sn) (j : Nat) : Int := if j = 0 then x.v0 else if j = 1 then x.v1 else if j = 2 then x.v2 else x.v3
def SeenC (w : World) (b o : Nat) (x : Sn) : Prop := w.cell? ⟨b, o, none⟩ = some (.int .i64 x.no) ∧ ∀ j, j < 4 → w.cell? ⟨b, o + 1 + j, none⟩ = some (.int .i64 (x.v j))
def HeldS (w : World) (ao : Option Addr) (l : List Sn) : Prop := l = [] ∨ ∃ b off, ao = some ⟨b, off, none⟩ ∧ b < w.heap.size ∧ ∀ i, i < l.length → SeenC w b (off + i * 5) (snAt l i)

theorem snCells_at : ∀ (l : List Sn) (i : Nat), i < l.length → ∀ j, j < 5 → (snCells l)[i * 5 + j]? = (snAt l i).cells[j]?
  | [], i, h, _, _ => absurd h (by simp)
  | r :: R, 0, _, j, hj => by
    unfold snCells; rw [List.flatMap_cons, Nat.zero_mul, Nat.zero_add, List.getElem?_append_left (by exact hj)]; rfl
  | r :: R, i + 1, h, j, hj => by
    have ih := snCells_at R i (by simpa using h) j hj
    unfold snCells at *
    rw [List.flatMap_cons, List.getElem?_append_right (by show 5 ≤ _; omega), show (i + 1) * 5 + j - r.cells.length = i * 5 + j by show _ - 5 = _; omega, ih]
    rfl
theorem own_heldI {w : World} {base : Nat} {v : Value} {xs : List Int} (h : w.ownsRow base 3 1 v xs.length (intCells xs)) : ∃ ao cap, v = .slice ao xs.length cap ∧ HeldI w ao xs ∧ xs.length ≤ maxLen := by
  rcases h.2 with ⟨rfl, h0⟩ | ⟨g, cap, cur, rfl, h2, h3, h4, h5, h6, h7⟩
  · have : xs = [] := List.length_eq_zero_iff.1 h0
    subst this
    exact ⟨none, 0, rfl, .inl rfl, by decide⟩
  · refine ⟨some ⟨g, 0, none⟩, cap, rfl, .inr ⟨g, 0, rfl, (Array.getElem?_eq_some_iff.1 h3).1, fun i hi => ?_⟩, by omega⟩
    rw [Nat.zero_add, h.cellAt i (by omega)]
    unfold intCells nth
    rw [List.getElem?_map, List.getElem?_eq_getElem hi, List.getD_eq_getElem?_getD, List.getElem?_eq_getElem hi]
    rfl
theorem own_heldS {w : World} {base : Nat} {v : Value} {l : List Sn} (h : w.ownsRow base 63 5 v l.length (snCells l)) : ∃ ao cap, v = .slice ao l.length cap ∧ HeldS w ao l ∧ l.length ≤ maxLen := by
  rcases h.2 with ⟨rfl, h0⟩ | ⟨g, cap, cur, rfl, h2, h3, h4, h5, h6, h7⟩
  · have : l = [] := List.length_eq_zero_iff.1 h0
    subst this
    exact ⟨none, 0, rfl, .inl rfl, by decide⟩
  · refine ⟨some ⟨g, 0, none⟩, cap, rfl, .inr ⟨g, 0, rfl, (Array.getElem?_eq_some_iff.1 h3).1, fun i hi => ?_⟩, by omega⟩
    have key : ∀ j, j < 5 → w.cell? ⟨g, i * 5 + j, none⟩ = (snAt l i).cells[j]? := fun j hj => by
      rw [h.cellAt (i * 5 + j) (by omega), snCells_at l i hi j hj]
    rw [Nat.zero_add]
    refine ⟨key 0 (by decide), fun j hj => ?_⟩
    rcases (show j = 0 ∨ j = 1 ∨ j = 2 ∨ j = 3 by omega) with rfl | rfl | rfl | rfl
    · exact key 1 (by decide)
    · exact key 2 (by decide)
    · exact key 3 (by decide)
    · exact key 4 (by decide)
theorem HeldS.below {w w' : World} {ao : Option Addr} {l : List Sn} (h : HeldS w ao l) (hb : Below w.heap.size w w') : HeldS w' ao l := by
  rcases h with h | ⟨b, off, e, hB, hL⟩
  · exact .inl h
  · exact .inr ⟨b, off, e, Nat.lt_of_lt_of_le hB hb.size, fun i hi => ⟨(hb.cell (p := ⟨b, off + i * 5, none⟩) hB).trans (hL i hi).1, fun j hj => (hb.cell (p := ⟨b, off + i * 5 + 1 + j, none⟩) hB).trans ((hL i hi).2 j hj)⟩⟩

end Go.Proofs.YtoepcplbpochpaaDoor
