/-
  A run's mathematics once more: what a step makes of the end, the outputs and what was seen; numbers that are copied.
-/
import Derived.Test.YtoepcplbpochpaaDoorRun
import Derived.Test.YtoepcplbpochpaaDoorCopy
import Derived.Test.YtoepcplbpochpaaDoorRunInv
namespace Go.Proofs.YtoepcplbpochpaaDoor
open Go.RowKit

theorem pre_kind (x : In4) (s : St) : (preSt x s).kind = s.kind := by
  unfold preSt
  repeat' split
  all_goals rfl
theorem step_kind (x : In4) (s : St) (h : 0 ≤ s.kind) : 0 ≤ (stepSt x s).kind := by
  have h' : 0 ≤ (preSt x s).kind := by rw [pre_kind]; exact h
  unfold stepSt doSt
  repeat' split
  all_goals first | exact h' | (show (0 : Int) ≤ 0; decide) | (unfold St.reckon; split; (show (0 : Int) ≤ 1; decide); exact h')
theorem step_outs9 (d a b : Int) (s : St) : (stepSt ⟨9, d, a, b⟩ s).outs = s.outs ++ [s.regs a.toNat] := rfl
theorem step_outs {op d a b : Int} {s : St} (h : op ≠ 9) : (stepSt ⟨op, d, a, b⟩ s).outs = s.outs := by
  have hp : (preSt ⟨op, d, a, b⟩ s).outs = s.outs := by
    unfold preSt
    repeat' split
    all_goals rfl
  rw [← hp]
  unfold stepSt doSt
  simp only
  repeat' split
  all_goals first | rfl | (exfalso; omega) | (exact reckon_outs _ _ _ _ _)
theorem step_stops11 (d a b : Int) (s : St) : (stepSt ⟨11, d, a, b⟩ s).stops = s.stops ++ [⟨a, s.tell 0, s.tell 1, s.tell 2, s.tell 3⟩] := rfl
theorem step_stops {op d a b : Int} {s : St} (h : op ≠ 11) : (stepSt ⟨op, d, a, b⟩ s).stops = s.stops := by
  have hp : (preSt ⟨op, d, a, b⟩ s).stops = s.stops := by
    unfold preSt
    simp only
    repeat' split
    all_goals first | rfl | (exfalso; omega)
  rw [← hp]
  unfold stepSt doSt
  simp only
  repeat' split
  all_goals first | rfl | (exact reckon_stops _ _ _ _ _)

theorem Tryd.size3 : (Tryd.prog.info? 3).map (·.size) = some 1 := by kernel_rfl
theorem mom_of_blocks {w : World} {M G H R V : Nat} {xs : List Int} {cg ch : Array Value} (hM : w.heap[M]? = some (.cells #[.int .i64 0, .slice (some ⟨G, 0, none⟩) R R, .slice none 0 0, .slice (some ⟨H, 0, none⟩) V V, .int .i64 (-1), .int .i64 0] 90 (0, 0)))
    (hG : w.heap[G]? = some (.cells cg 3 (0, 0))) (hH : w.heap[H]? = some (.cells ch 3 (0, 0))) (h1 : ∀ i, i < R → cg[i]? = some (.int .i64 (nth xs i))) (h2 : ∀ i, i < V → ch[i]? = some (.int .i64 (-1))) (n1 : M ≠ G) (n2 : M ≠ H) (n3 : G ≠ H) : MomB w M G H R V (st0 xs) :=
  ⟨(cell_of_row w M 0 _ 90 (0, 0) hM).trans rfl, (cell_of_row w M 1 _ 90 (0, 0) hM).trans rfl, (cell_of_row w M 3 _ 90 (0, 0) hM).trans rfl, (cell_of_row w M 4 _ 90 (0, 0) hM).trans rfl, (cell_of_row w M 5 _ 90 (0, 0) hM).trans rfl,
   fun i hi => (cell_of_row w G i _ 3 (0, 0) hG).trans (h1 i hi), fun i hi => (cell_of_row w H i _ 3 (0, 0) hH).trans (h2 i hi), fun o => by simp [World.frozen?, hM], fun o => by simp [World.frozen?, hG], fun o => by simp [World.frozen?, hH],
   (Array.getElem?_eq_some_iff.1 hG).1, (Array.getElem?_eq_some_iff.1 hH).1, n1, n2, n3, .inr rfl⟩
theorem held_ints {w : World} {ao : Option Addr} {xs : List Int} (h : HeldI w ao xs) : 0 < xs.length → ∃ ad, ao = some ad ∧ ∀ j v, (intCells xs)[j]? = some v → w.cell? (ad.add j) = some v := fun h0 => by
  rcases h with h | ⟨b, off, e, _, hc⟩
  · subst h; exact absurd h0 (by simp)
  · refine ⟨_, e, fun j v hv => ?_⟩
    have hj : j < xs.length := by
      rcases Nat.lt_or_ge j xs.length with h | h
      · exact h
      · rw [List.getElem?_eq_none (by rw [intCells_len]; exact h)] at hv; cases hv
    have hadd : (⟨b, off, none⟩ : Addr).add j = ⟨b, off + j, none⟩ := by unfold Addr.add; split <;> simp_all
    rw [hadd, hc j hj]
    unfold intCells at hv
    rw [List.getElem?_map, List.getElem?_eq_getElem hj] at hv
    unfold nth
    rw [List.getD_eq_getElem?_getD, List.getElem?_eq_getElem hj]
    exact hv
theorem copied_regs {xs : List Int} {cs : Array Value} {n : Nat} (hc : ∀ i, i < n → cs[i]? = some (.int .i64 0)) : ∀ i, i < n → (intCells xs ++ cs.toList.drop (intCells xs).length).toArray[i]? = some (.int .i64 (nth xs i)) := fun i hi => by
  rw [List.getElem?_toArray]
  rcases Nat.lt_or_ge i xs.length with h | h
  · rw [List.getElem?_append_left (by rw [intCells_len]; exact h)]
    unfold intCells nth
    rw [List.getElem?_map, List.getElem?_eq_getElem h, List.getD_eq_getElem?_getD, List.getElem?_eq_getElem h]
    rfl
  · rw [List.getElem?_append_right (by rw [intCells_len]; exact h), List.getElem?_drop, intCells_len, show xs.length + (i - xs.length) = i by omega, nth_past xs h, Array.getElem?_toList]
    exact hc i hi
end Go.Proofs.YtoepcplbpochpaaDoor
