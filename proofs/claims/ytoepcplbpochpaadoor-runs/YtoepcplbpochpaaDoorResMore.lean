/-
  Results in memory once more: their shape, and what keeps them; a result written full.
-/
import Derived.Test.YtoepcplbpochpaaDoorLent
import Derived.Test.YtoepcplbpochpaaDoorSpent
namespace Go.Proofs.YtoepcplbpochpaaDoor
open Go.RowKit

/-- A result as an aggregate of five cells; its lists are slices. -/
theorem ResOf.shape {w : World} {base : Nat} {v : Value} {s : St} (h : ResOf w base v s) : ∃ ao co az cz, v = .agg #[.int .i64 s.kind, .int .i64 s.val, .int .i64 (s.steps : Int), .slice ao s.outs.length co, .slice az s.stops.length cz] := by
  obtain ⟨vo, vs, rfl, o1, s1⟩ := h
  obtain ⟨ao, co, rfl, _, _⟩ := own_heldI o1
  obtain ⟨az, cz, rfl, _, _⟩ := own_heldS s1
  exact ⟨_, _, _, _, rfl⟩
theorem ResOf.below {w w' : World} {base : Nat} {v : Value} {s : St} (h : ResOf w base v s) (hb : Below w.heap.size w w') : ResOf w' base v s := by
  obtain ⟨vo, vs, rfl, o1, s1⟩ := h
  exact ⟨vo, vs, rfl, own_keep o1 (Keep.of_below hb (fun _ => False)) (fun _ _ h => h), own_keep s1 (Keep.of_below hb (fun _ => False)) (fun _ _ h => h)⟩
/-- What was written full lies between two sizes of the memory; what lies elsewhere stays. -/
theorem ResOf.keep {S : Nat → Prop} {w w' : World} {base : Nat} {v : Value} {s : St} (h : ResOf w base v s) (hk : Keep S w w') (hS : ∀ k, base ≤ k → ¬ S k) : ResOf w' base v s := by
  obtain ⟨vo, vs, rfl, o1, s1⟩ := h
  exact ⟨vo, vs, rfl, own_keep o1 hk (fun g hg => hS g (own_in o1 g hg).1), own_keep s1 hk (fun g hg => hS g (own_in s1 g hg).1)⟩
theorem spent_res {w0 : World} {s : St} {base : Nat} {v : Value} (h : ResOf w0 base v s) (w : World) (hb : Below w0.heap.size w0 w) :
    Calls Tryd.prog 20 #[v] w fun e w' => e = .returned (.tuple #[]) ∧ Keep (fun k => base ≤ k ∧ k < w0.heap.size) w w' := by
  obtain ⟨vo, vs, rfl, o1, s1⟩ := h
  have o2 := own_keep o1 (Keep.of_below hb (fun _ => False)) (fun _ _ h => h)
  have s2 := own_keep s1 (Keep.of_below hb (fun _ => False)) (fun _ _ h => h)
  refine (spent_any s base vo vs w o2 s2).mono ?_
  rintro e w' ⟨he, hk⟩
  exact ⟨he, hk.mono (fun i _ h => h.elim (fun h => own_in o1 i h.symm) (fun h => own_in s1 i h.symm))⟩
theorem five {w : World} {g : Nat} {a b c d e : Value} (h : w.heap[g]? = some (.cells #[a, b, c, d, e] 37 (0, 0))) : w.cell? ⟨g, 0, none⟩ = some a ∧ w.cell? ⟨g, 1, none⟩ = some b ∧ w.cell? ⟨g, 2, none⟩ = some c ∧ w.cell? ⟨g, 3, none⟩ = some d ∧ w.cell? ⟨g, 4, none⟩ = some e :=
  ⟨(cell_of_row w g 0 _ 37 (0, 0) h).trans rfl, (cell_of_row w g 1 _ 37 (0, 0) h).trans rfl, (cell_of_row w g 2 _ 37 (0, 0) h).trans rfl, (cell_of_row w g 3 _ 37 (0, 0) h).trans rfl, (cell_of_row w g 4 _ 37 (0, 0) h).trans rfl⟩
end Go.Proofs.YtoepcplbpochpaaDoor
