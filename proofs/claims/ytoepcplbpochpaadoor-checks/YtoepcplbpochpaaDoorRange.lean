/-
  Ranges and tables: what they are, plainly; what leb.isRange, leb.mayFollow, lodgeref.one and lodgeref.pair answer.
-/
import Derived.Test.YtoepcplbpochpaaDoorPut
namespace Go.Proofs.YtoepcplbpochpaaDoor
open Go.RowKit

/-- A range. -/
structure Rg where
  v : Int
  f : Int
  t : Int
  k : Int
  a : Int

/-- A range as a value. -/
def Rg.cells (r : Rg) : List Value := [.int .i64 r.v, .int .i64 r.f, .int .i64 r.t, .int .i64 r.k, .int .i64 r.a]

def isRg (r : Rg) : Bool := decide (0 ≤ r.v ∧ r.v < 4 ∧ 0 ≤ r.f ∧ r.f < r.t ∧ r.t ≤ 164 ∧ 0 ≤ r.k ∧ r.k ≤ 2 ∧ 0 ≤ r.a ∧ r.a ≤ 65535)
def follows (x y : Rg) : Bool := if x.v ≠ y.v then decide (x.v < y.v) else if x.t ≠ y.f then decide (x.t < y.f) else decide (x.k ≠ y.k ∨ x.a ≠ y.a)

/-- May y stand somewhere behind x (near: right behind it)? -/
def behind (x y : Rg) (near : Bool) : Bool := if x.v ≠ y.v then decide (x.v < y.v) else if y.f < x.t then false else (!near || decide (x.t < y.f) || decide (x.k ≠ y.k) || decide (x.a ≠ y.a))

set_option maxHeartbeats 1000000 in
theorem isRange_any (r : Rg) (w : World) :
    Calls Tryd.prog 114 #[.agg #[.int .i64 r.v, .int .i64 r.f, .int .i64 r.t, .int .i64 r.k, .int .i64 r.a]] w fun e w' => e = .returned (.bool (isRg r)) ∧ Below w.heap.size w w' := by
  obtain ⟨v, f, t, k, a⟩ := r

  go_enter Tryd.func114, Tryd.ntmps114
  go_wp2
  all_goals (go_ret; refine ⟨ret_bool ?_, ((Below.refl _ _).alloc (Nat.le_refl _) _)⟩; rw [Bool.eq_iff_iff]; simp [isRg]; try omega)

set_option maxHeartbeats 1000000 in
theorem one_any (r : Rg) (w : World) :
    Calls Tryd.prog 133 #[.agg #[.int .i64 r.v, .int .i64 r.f, .int .i64 r.t, .int .i64 r.k, .int .i64 r.a]] w fun e w' => e = .returned (.bool (isRg r)) ∧ Below w.heap.size w w' := by
  obtain ⟨v, f, t, k, a⟩ := r

  go_enter Tryd.func133, Tryd.ntmps133
  go_wp2
  all_goals (go_ret; refine ⟨ret_bool ?_, ((Below.refl _ _).alloc (Nat.le_refl _) _)⟩; rw [Bool.eq_iff_iff]; simp [isRg]; try omega)

set_option maxHeartbeats 1000000 in
theorem mayFollow_any (r r2 : Rg) (w : World) :
    Calls Tryd.prog 115 #[.agg #[.int .i64 r.v, .int .i64 r.f, .int .i64 r.t, .int .i64 r.k, .int .i64 r.a], .agg #[.int .i64 r2.v, .int .i64 r2.f, .int .i64 r2.t, .int .i64 r2.k, .int .i64 r2.a]] w fun e w' => e = .returned (.bool (follows r r2)) ∧ Below w.heap.size w w' := by
  obtain ⟨v, f, t, k, a⟩ := r
  obtain ⟨v2, f2, t2, k2, a2⟩ := r2
  have S : Hid (follows ⟨v, f, t, k, a⟩ ⟨v2, f2, t2, k2, a2⟩ = decide (v < v2 ∨ v = v2 ∧ (t < f2 ∨ t = f2 ∧ (k ≠ k2 ∨ a ≠ a2)))) := by
    unfold Hid follows; rw [Bool.eq_iff_iff]; simp only [ne_eq]; split
    · simp; omega
    · split <;> simp <;> omega
  go_enter Tryd.func115, Tryd.ntmps115
  go_wp2
  all_goals (go_ret; refine ⟨ret_bool ?_, (((Below.refl _ _).alloc (Nat.le_refl _) _).alloc (by simp) _)⟩; rw [unhide S]; try simp only [bne_iff_ne, ne_eq, bne_eq_false_iff_eq] at *; rw [Bool.eq_iff_iff]; simp; try omega)

set_option maxHeartbeats 1000000 in
theorem pair_any (r r2 : Rg) (near : Bool) (w : World) :
    Calls Tryd.prog 134 #[.agg #[.int .i64 r.v, .int .i64 r.f, .int .i64 r.t, .int .i64 r.k, .int .i64 r.a], .agg #[.int .i64 r2.v, .int .i64 r2.f, .int .i64 r2.t, .int .i64 r2.k, .int .i64 r2.a], .bool near] w fun e w' => e = .returned (.bool (behind r r2 near)) ∧ Below w.heap.size w w' := by
  obtain ⟨v, f, t, k, a⟩ := r
  obtain ⟨v2, f2, t2, k2, a2⟩ := r2
  have S : Hid (behind ⟨v, f, t, k, a⟩ ⟨v2, f2, t2, k2, a2⟩ near = decide (v < v2 ∨ v = v2 ∧ (t ≤ f2 ∧ (near = false ∨ t < f2 ∨ k ≠ k2 ∨ a ≠ a2)))) := by
    unfold Hid behind; rw [Bool.eq_iff_iff]; cases near <;> simp only [ne_eq] <;> split
    · simp; omega
    · split <;> simp <;> omega
    · simp; omega
    · split <;> simp <;> omega
  cases near
  all_goals
    go_enter Tryd.func134, Tryd.ntmps134
    go_wp2
    all_goals (go_ret; refine ⟨ret_bool ?_, (((Below.refl _ _).alloc (Nat.le_refl _) _).alloc (by simp) _)⟩; rw [unhide S]; try simp only [bne_iff_ne, ne_eq, bne_eq_false_iff_eq] at *; rw [Bool.eq_iff_iff]; simp; try omega)

end Go.Proofs.YtoepcplbpochpaaDoor
