/-
  Units as plain data: the error of a unit, and its place; what mach.isSize and mach.isRange answer.
-/
import Derived.Test.YtoepcplbpochpaaDoorIns
import Derived.Test.YtoepcplbpochpaaDoorIsTable
import Derived.Deep.RegionHeld3
import Derived.Handy
namespace Go.Proofs.YtoepcplbpochpaaDoor
open Go.RowKit

def UnitBad (K S P V : Int) (n : Nat) : Prop := K < 2 ∨ 16 < K ∨ S < 0 ∨ 16 < S ∨ P < 0 ∨ 4 < P ∨ S < P ∨ V < 0 ∨ 4 < V ∨ n < 1 ∨ 164 < n
def decUnit (K S P V : Int) (n : Nat) : Decidable (UnitBad K S P V n) := by unfold UnitBad; exact inferInstance
def unitB (K S P V : Int) (n : Nat) : Bool := @ite _ (UnitBad K S P V n) (decUnit K S P V n) false true
theorem unitB_bad {K S P V : Int} {n : Nat} (h : UnitBad K S P V n) : unitB K S P V n = false := @if_pos _ (decUnit _ _ _ _ _) h _ _ _
theorem unitB_good {K S P V : Int} {n : Nat} (h : ¬ UnitBad K S P V n) : unitB K S P V n = true := @if_neg _ (decUnit _ _ _ _ _) h _ _ _
/-- The first test that a unit's size fails. -/
theorem unit_cases {K S P V : Int} {n : Nat} (h : UnitBad K S P V n) :
    K < 2 ∨ (2 ≤ K ∧ 16 < K) ∨ (2 ≤ K ∧ K ≤ 16 ∧ S < 0) ∨ (2 ≤ K ∧ K ≤ 16 ∧ 0 ≤ S ∧ 16 < S) ∨ (2 ≤ K ∧ K ≤ 16 ∧ 0 ≤ S ∧ S ≤ 16 ∧ P < 0) ∨ (2 ≤ K ∧ K ≤ 16 ∧ 0 ≤ S ∧ S ≤ 16 ∧ 0 ≤ P ∧ 4 < P) ∨
    (2 ≤ K ∧ K ≤ 16 ∧ 0 ≤ S ∧ S ≤ 16 ∧ 0 ≤ P ∧ P ≤ 4 ∧ S < P) ∨ (2 ≤ K ∧ K ≤ 16 ∧ 0 ≤ S ∧ S ≤ 16 ∧ 0 ≤ P ∧ P ≤ 4 ∧ P ≤ S ∧ V < 0) ∨ (2 ≤ K ∧ K ≤ 16 ∧ 0 ≤ S ∧ S ≤ 16 ∧ 0 ≤ P ∧ P ≤ 4 ∧ P ≤ S ∧ 0 ≤ V ∧ 4 < V) ∨
    (2 ≤ K ∧ K ≤ 16 ∧ 0 ≤ S ∧ S ≤ 16 ∧ 0 ≤ P ∧ P ≤ 4 ∧ P ≤ S ∧ 0 ≤ V ∧ V ≤ 4 ∧ n < 1) ∨ (2 ≤ K ∧ K ≤ 16 ∧ 0 ≤ S ∧ S ≤ 16 ∧ 0 ≤ P ∧ P ≤ 4 ∧ P ≤ S ∧ 0 ≤ V ∧ V ≤ 4 ∧ 1 ≤ n ∧ 164 < n) := by
  unfold UnitBad at h
  by_cases h1 : K < 2
  · exact .inl h1
  by_cases h2 : 16 < K
  · exact .inr (.inl (by omega))
  by_cases h3 : S < 0
  · exact .inr (.inr (.inl (by omega)))
  by_cases h4 : 16 < S
  · exact .inr (.inr (.inr (.inl (by omega))))
  by_cases h5 : P < 0
  · exact .inr (.inr (.inr (.inr (.inl (by omega)))))
  by_cases h6 : 4 < P
  · exact .inr (.inr (.inr (.inr (.inr (.inl (by omega))))))
  by_cases h7 : S < P
  · exact .inr (.inr (.inr (.inr (.inr (.inr (.inl (by omega)))))))
  by_cases h8 : V < 0
  · exact .inr (.inr (.inr (.inr (.inr (.inr (.inr (.inl (by omega))))))))
  by_cases h9 : 4 < V
  · exact .inr (.inr (.inr (.inr (.inr (.inr (.inr (.inr (.inl (by omega)))))))))
  by_cases h10 : n < 1
  · exact .inr (.inr (.inr (.inr (.inr (.inr (.inr (.inr (.inr (.inl (by omega))))))))))
  · exact .inr (.inr (.inr (.inr (.inr (.inr (.inr (.inr (.inr (.inr (by omega))))))))))
theorem unit_good {K S P V : Int} {n : Nat} (h : ¬ UnitBad K S P V n) : 2 ≤ K ∧ K ≤ 16 ∧ 0 ≤ S ∧ S ≤ 16 ∧ 0 ≤ P ∧ P ≤ 4 ∧ P ≤ S ∧ 0 ≤ V ∧ V ≤ 4 ∧ 1 ≤ n ∧ n ≤ 164 := by
  unfold UnitBad at h; omega

set_option maxRecDepth 100000 in
set_option maxHeartbeats 2000000 in
theorem isSizeU_any (K S P V : Int) (L : List In4) (T : ByteArray) (ao : Option Addr) (cap : Nat) (w : World) (hn : L.length ≤ 9223372036854775807) :
    Calls Tryd.prog 45 #[.agg #[.int .i64 K, .int .i64 S, .int .i64 P, .int .i64 V, .slice ao L.length cap, .string T]] w fun e w' =>
      e = .returned (.bool (unitB K S P V L.length)) ∧ Below w.heap.size w w' := by
  by_cases hs : UnitBad K S P V L.length
  · have HS := hide (unitB_bad hs)
    rcases unit_cases hs with h | ⟨g1, h⟩ | ⟨g1, g2, h⟩ | ⟨g1, g2, g3, h⟩ | ⟨g1, g2, g3, g4, h⟩ | ⟨g1, g2, g3, g4, g5, h⟩ | ⟨g1, g2, g3, g4, g5, g6, h⟩ | ⟨g1, g2, g3, g4, g5, g6, g7, h⟩ | ⟨g1, g2, g3, g4, g5, g6, g7, g8, h⟩ | ⟨g1, g2, g3, g4, g5, g6, g7, g8, g9, h⟩ | ⟨g1, g2, g3, g4, g5, g6, g7, g8, g9, g10, h⟩
    all_goals
      clear hs
      go_enter Tryd.func45, Tryd.ntmps45
      go_wp2
      go_ret
      refine ⟨ret_bool ?_, (Below.refl _ _).alloc (Nat.le_refl _) _⟩
      rw [unhide HS]
      try (simp; omega)
  · have HS := hide (unitB_good hs)
    obtain ⟨g1, g2, g3, g4, g5, g6, g7, g8, g9, g10, g11⟩ := unit_good hs
    clear hs
    go_enter Tryd.func45, Tryd.ntmps45
    go_wp2
    go_ret
    refine ⟨ret_bool ?_, (Below.refl _ _).alloc (Nat.le_refl _) _⟩
    rw [unhide HS]
    try (simp; omega)

/-- Does a range name only what the unit has? -/
def RgIn (K S V : Int) (n : Nat) (r : Rg) : Prop := r.v < V ∧ r.t ≤ (n : Int) ∧ (r.k = 0 → r.a < K) ∧ (r.k = 1 → r.a < S)
def decRg (K S V : Int) (n : Nat) (r : Rg) : Decidable (RgIn K S V n r) := by unfold RgIn; exact inferInstance
def rgIn (K S V : Int) (n : Nat) (r : Rg) : Bool := @ite _ (RgIn K S V n r) (decRg K S V n r) true false
theorem rgIn_yes {K S V : Int} {n : Nat} {r : Rg} (h : RgIn K S V n r) : rgIn K S V n r = true := @if_pos _ (decRg _ _ _ _ _) h _ _ _
theorem rgIn_no {K S V : Int} {n : Nat} {r : Rg} (h : ¬ RgIn K S V n r) : rgIn K S V n r = false := @if_neg _ (decRg _ _ _ _ _) h _ _ _
theorem rgIn_true {K S V : Int} {n : Nat} {r : Rg} (h : rgIn K S V n r = true) : RgIn K S V n r := by
  rcases decRg K S V n r with hn | hy
  · rw [rgIn_no hn] at h; cases h
  · exact hy
/-- The ways of the tests. -/
theorem rg_cases (K S V : Int) (n : Nat) (r : Rg) :
    (V ≤ r.v ∧ rgIn K S V n r = false) ∨ (r.v < V ∧ (n : Int) < r.t ∧ rgIn K S V n r = false) ∨
    (r.v < V ∧ r.t ≤ (n : Int) ∧ r.k = 0 ∧ K ≤ r.a ∧ rgIn K S V n r = false) ∨ (r.v < V ∧ r.t ≤ (n : Int) ∧ r.k = 0 ∧ r.a < K ∧ rgIn K S V n r = true) ∨
    (r.v < V ∧ r.t ≤ (n : Int) ∧ r.k = 1 ∧ S ≤ r.a ∧ rgIn K S V n r = false) ∨ (r.v < V ∧ r.t ≤ (n : Int) ∧ r.k = 1 ∧ r.a < S ∧ rgIn K S V n r = true) ∨
    (r.v < V ∧ r.t ≤ (n : Int) ∧ (r.k == 0) = false ∧ (r.k == 1) = false ∧ rgIn K S V n r = true) := by
  by_cases h1 : r.v < V
  case neg => exact .inl ⟨by omega, rgIn_no (fun h => h1 h.1)⟩
  by_cases h2 : r.t ≤ (n : Int)
  case neg => exact .inr (.inl ⟨h1, by omega, rgIn_no (fun h => h2 h.2.1)⟩)
  by_cases h3 : r.k = 0
  · by_cases h4 : r.a < K
    · exact .inr (.inr (.inr (.inl ⟨h1, h2, h3, h4, rgIn_yes ⟨h1, h2, fun _ => h4, fun h => by omega⟩⟩)))
    · exact .inr (.inr (.inl ⟨h1, h2, h3, by omega, rgIn_no (fun h => h4 (h.2.2.1 h3))⟩))
  by_cases h5 : r.k = 1
  · by_cases h4 : r.a < S
    · exact .inr (.inr (.inr (.inr (.inr (.inl ⟨h1, h2, h5, h4, rgIn_yes ⟨h1, h2, fun h => absurd h h3, fun _ => h4⟩⟩)))))
    · exact .inr (.inr (.inr (.inr (.inl ⟨h1, h2, h5, by omega, rgIn_no (fun h => h4 (h.2.2.2 h5))⟩))))
  · exact .inr (.inr (.inr (.inr (.inr (.inr ⟨h1, h2, by rw [beq_eq_false_iff_ne]; exact h3, by rw [beq_eq_false_iff_ne]; exact h5, rgIn_yes ⟨h1, h2, fun h => absurd h h3, fun h => absurd h h5⟩⟩)))))

set_option maxRecDepth 100000 in
set_option maxHeartbeats 2000000 in
theorem isRangeU_any (K S P V : Int) (n : Nat) (T : ByteArray) (r : Rg) (ao : Option Addr) (cap : Nat) (w : World) :
    Calls Tryd.prog 83 #[.agg #[.int .i64 r.v, .int .i64 r.f, .int .i64 r.t, .int .i64 r.k, .int .i64 r.a], .agg #[.int .i64 K, .int .i64 S, .int .i64 P, .int .i64 V, .slice ao n cap, .string T]] w fun e w' =>
      e = .returned (.bool (rgIn K S V n r)) ∧ Below w.heap.size w w' := by
  obtain ⟨b, hb⟩ : ∃ b, rgIn K S V n r = b := ⟨_, rfl⟩
  have hc := rg_cases K S V n r
  rw [hb] at hc ⊢
  clear hb
  obtain ⟨v, f, t, k, a⟩ := r
  simp only at hc ⊢
  rcases hc with ⟨g1, rfl⟩ | ⟨g1, g2, rfl⟩ | ⟨g1, g2, rfl, g4, rfl⟩ | ⟨g1, g2, rfl, g4, rfl⟩ | ⟨g1, g2, rfl, g4, rfl⟩ | ⟨g1, g2, rfl, g4, rfl⟩ | ⟨g1, g2, g3, g4, rfl⟩
  all_goals
    go_enter Tryd.func83, Tryd.ntmps83
    go_wp2
    go_ret
    refine ⟨ret_bool ?_, ((Below.refl _ _).alloc (Nat.le_refl _) _).alloc (by simp) _⟩
    first | rfl | (simp; done) | (simp; omega)

/-- Do the ranges of a list name only what the unit has? -/
def TabIn (K S V : Int) (n : Nat) (R : List Rg) : Prop := ∀ i, i < R.length → RgIn K S V n (rg R i)
end Go.Proofs.YtoepcplbpochpaaDoor
