/-
  Blocks of many cells, each told by its number: how they read, how they are written.
-/
import Derived.Test.YtoepcplbpochpaaDoorUnit2
import Derived.Deep.WholeRow
import Derived.Laws.Rows

namespace Go.Proofs.YtoepcplbpochpaaDoor
open Go.RowKit

/-- n cells, each told by its number. -/
def rowA (n : Nat) (c : Nat → Value) : Array Value := ((List.range n).map c).toArray
theorem rowA_size (n : Nat) (c : Nat → Value) : (rowA n c).size = n := by unfold rowA; simp
theorem rowA_at {n : Nat} (c : Nat → Value) {i : Nat} (h : i < n) : (rowA n c)[i]? = some (c i) := by
  unfold rowA; rw [List.getElem?_toArray, List.getElem?_map, List.getElem?_range h]; rfl
theorem rowA_out {n : Nat} (c : Nat → Value) {i : Nat} (h : n ≤ i) : (rowA n c)[i]? = none := by
  rw [Array.getElem?_eq_none_iff, rowA_size]; exact h
theorem rowA_ext {n : Nat} {cs : Array Value} {c : Nat → Value} (hs : cs.size = n) (h : ∀ i, i < n → cs[i]? = some (c i)) : cs = rowA n c := by
  apply Array.ext_getElem?
  intro i
  by_cases hi : i < n
  · rw [h i hi, rowA_at c hi]
  · rw [rowA_out c (by omega), Array.getElem?_eq_none_iff]; omega
theorem rowA_congr {n : Nat} {c c' : Nat → Value} (h : ∀ i, i < n → c i = c' i) : rowA n c = rowA n c' :=
  rowA_ext (rowA_size n c) (fun i hi => by rw [rowA_at c hi, h i hi])
theorem rowA_set (n : Nat) (c : Nat → Value) (i : Nat) (v : Value) : (rowA n c).setIfInBounds i v = rowA n (fun j => if j = i then v else c j) := by
  refine rowA_ext (by rw [Array.size_setIfInBounds, rowA_size]) (fun j hj => ?_)
  rw [Array.getElem?_setIfInBounds]
  by_cases e : i = j
  · subst e; rw [if_pos rfl, if_pos (by rw [rowA_size]; exact hj), if_pos rfl]
  · rw [if_neg e, if_neg (fun h => e h.symm)]; exact rowA_at c hj
theorem rowA_plain {n : Nat} {c : Nat → Value} (h : ∀ i, i < n → (c i).oneCell' = true) : (rowA n c).all (·.oneCell') = true := by
  rw [Array.all_eq_true]
  intro i hi
  have hi' : i < n := by rw [rowA_size] at hi; exact hi
  have e := rowA_at c hi'
  rw [Array.getElem?_eq_getElem hi] at e
  rw [Option.some.inj e]
  exact h i hi'

/-- The block B holds n cells. -/
def Rowd (w : World) (B T n : Nat) (c : Nat → Value) : Prop := w.heap[B]? = some (.cells (rowA n c) T (0, 0))
theorem Rowd.cell {w : World} {B T n : Nat} {c : Nat → Value} (h : Rowd w B T n c) {i : Nat} (hi : i < n) : w.cell? ⟨B, i, none⟩ = some (c i) :=
  (cell_of_row w B i _ T (0, 0) h).trans (rowA_at c hi)
theorem Rowd.lt {w : World} {B T n : Nat} {c : Nat → Value} (h : Rowd w B T n c) : B < w.heap.size := (Array.getElem?_eq_some_iff.1 h).1
theorem Rowd.free {w : World} {B T n : Nat} {c : Nat → Value} (h : Rowd w B T n c) (o : Nat) : w.frozen? ⟨B, o, none⟩ = false := by
  have h' : w.heap[B]? = some (.cells (rowA n c) T (0, 0)) := h
  simp [World.frozen?, h']
theorem Rowd.congr {w : World} {B T n : Nat} {c c' : Nat → Value} (h : Rowd w B T n c) (hc : ∀ i, i < n → c i = c' i) : Rowd w B T n c' := by
  unfold Rowd; rw [← rowA_congr hc]; exact h
theorem Rowd.set {w : World} {B T n : Nat} {c : Nat → Value} (h : Rowd w B T n c) (i : Nat) (v : Value) : Rowd (w.setCell ⟨B, i, none⟩ v) B T n (fun j => if j = i then v else c j) := by
  unfold Rowd; rw [heap_setCell_same w B i _ T v h, rowA_set]
theorem Rowd.of_block {w w' : World} {B T n : Nat} {c : Nat → Value} (h : Rowd w B T n c) (hb : w'.heap[B]? = w.heap[B]?) : Rowd w' B T n c := hb.trans h
theorem Rowd.keep {S : Nat → Prop} {w w' : World} {B T n : Nat} {c : Nat → Value} (h : Rowd w B T n c) (hk : Keep S w w') (hS : ¬ S B) : Rowd w' B T n c := h.of_block (hk.block B h.lt hS)
theorem Rowd.below {w w' : World} {B T n : Nat} {c : Nat → Value} (h : Rowd w B T n c) (hb : Below w.heap.size w w') : Rowd w' B T n c := h.of_block (hb.block B h.lt)
theorem Rowd.drew {w : World} {B T n : Nat} {c : Nat → Value} (h : Rowd w B T n c) : Rowd w.drew B T n c := h
theorem rowd_alloc (w : World) (T n : Nat) (c : Nat → Value) : Rowd (w.alloc (.cells (rowA n c) T)) w.heap.size T n c := by
  show (w.heap.push _)[w.heap.size]? = _
  simp

theorem zero108 : Tryd.zeroCells108 = rowA 480 (fun _ => .bool false) := by kernel_rfl
theorem Tryd.size108 : (Tryd.prog.info? 108).map (·.size) = some 480 := by kernel_rfl
end Go.Proofs.YtoepcplbpochpaaDoor
