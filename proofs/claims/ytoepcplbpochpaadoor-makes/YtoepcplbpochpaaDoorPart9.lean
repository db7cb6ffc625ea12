/-
  What the document's own small functions answer: lodgeref.nexts, reads, writes, says.
-/
import Derived.Test.YtoepcplbpochpaaDoorPart8
import Derived.Test.YtoepcplbpochpaaDoorPart1
import Derived.Deep.RegionHeld3
import Derived.Handy

namespace Go.Proofs.YtoepcplbpochpaaDoor
open Go.RowKit

/-- How often a register is read. -/
def rdC (x : In4) (r : Int) : Nat := (if (x.op = 1 ∨ (2 ≤ x.op ∧ x.op ≤ 6) ∨ x.op = 8 ∨ x.op = 9 ∨ x.op = 10) ∧ x.a = r then 1 else 0) + (if (2 ≤ x.op ∧ x.op ≤ 6) ∧ x.b = r then 1 else 0)
theorem rdC_iff {x : In4} {r : Int} : 0 < rdC x r ↔ rdB x r = true := by
  unfold rdC rdB isRk
  by_cases h : x.op = 1 ∨ x.op = 8 ∨ x.op = 9 ∨ x.op = 10
  · rw [if_pos h, beq_iff_eq]
    by_cases e : x.a = r
    · rw [if_pos ⟨by omega, e⟩]; exact ⟨fun _ => e, fun _ => by omega⟩
    · rw [if_neg (fun h => e h.2), if_neg (fun h => by omega)]; exact ⟨fun h => by omega, fun h => absurd h e⟩
  · rw [if_neg h]
    by_cases g : 2 ≤ x.op ∧ x.op ≤ 6
    · rw [Bool.and_eq_true, Bool.and_eq_true, decide_eq_true_iff, decide_eq_true_iff, Bool.or_eq_true, beq_iff_eq, beq_iff_eq]
      by_cases e : x.a = r
      · rw [if_pos ⟨by omega, e⟩]; exact ⟨fun _ => ⟨g, .inl e⟩, fun _ => by omega⟩
      · rw [if_neg (fun h => e h.2)]
        by_cases f : x.b = r
        · rw [if_pos ⟨g, f⟩]; exact ⟨fun _ => ⟨g, .inr f⟩, fun _ => by omega⟩
        · rw [if_neg (fun h => f h.2)]; exact ⟨fun h => by omega, fun h => by rcases h.2 with h | h; exact absurd h e; exact absurd h f⟩
    · rw [if_neg (fun h => by omega), if_neg (fun h => g h.1), Bool.and_eq_true, Bool.and_eq_true, decide_eq_true_iff, decide_eq_true_iff]
      exact ⟨fun h => by omega, fun h => absurd h.1 g⟩
set_option maxRecDepth 100000 in
set_option maxHeartbeats 8000000 in
theorem refWrites_any (op d a b r : Int) (h : 0 ≤ op ∧ op ≤ 14) (w : World) :
    Calls Tryd.prog 66 #[.agg #[.int .i64 op, .int .i64 d, .int .i64 a, .int .i64 b], .int .i64 r] w fun e w' => e = .returned (.bool (wrB ⟨op, d, a, b⟩ r)) ∧ Below w.heap.size w w' := by
  rcases (show op = 0 ∨ op = 1 ∨ op = 2 ∨ op = 3 ∨ op = 4 ∨ op = 5 ∨ op = 6 ∨ op = 7 ∨ op = 8 ∨ op = 9 ∨ op = 10 ∨ op = 11 ∨ op = 12 ∨ op = 13 ∨ op = 14 by omega) with rfl | rfl | rfl | rfl | rfl | rfl | rfl | rfl | rfl | rfl | rfl | rfl | rfl | rfl | rfl
  · have FK := hide (fun w => form_any 0 (by decide) w)
    rw [show formS 0 = ⟨#[114, 99, 45]⟩ from rfl, show ((0 : Nat) : Int) = 0 from rfl] at FK
    by_cases hd : d = r
    · subst hd
      have HE := hide (show wrB ⟨0, d, a, b⟩ d = true by unfold wrB; rw [beq_self_eq_true]; rfl)
      go_enter Tryd.func66, Tryd.ntmps66
      go_wp2_with fail
      refine (unhide FK _).mono ?_
      rintro _ w1 ⟨rfl, hb1⟩
      have y0 : w1.cell? ⟨w.heap.size, 0, none⟩ = some (.int .i64 0) := (hb1.cell (by simp)).trans (by rw [World.cell?_alloc_at (hn := rfl)]; rfl)
      have y1 : w1.cell? ⟨w.heap.size, 1, none⟩ = some (.int .i64 d) := (hb1.cell (by simp)).trans (by rw [World.cell?_alloc_at (hn := rfl)]; rfl)
      have y2 : w1.cell? ⟨w.heap.size, 2, none⟩ = some (.int .i64 a) := (hb1.cell (by simp)).trans (by rw [World.cell?_alloc_at (hn := rfl)]; rfl)
      have y3 : w1.cell? ⟨w.heap.size, 3, none⟩ = some (.int .i64 b) := (hb1.cell (by simp)).trans (by rw [World.cell?_alloc_at (hn := rfl)]; rfl)
      have hbw : Below w.heap.size w w1 := ((Below.refl _ _).alloc (Nat.le_refl _) _).trans (hb1.mono (by simp))
      clear hb1
      go_wp2_with fail
      go_ret
      exact ⟨ret_bool (unhide HE).symm, hbw⟩
    · have hd' : (d == r) = false := by rw [beq_eq_false_iff_ne]; exact hd
      have HE := hide (show wrB ⟨0, d, a, b⟩ r = false by unfold wrB; rw [show ((⟨0, d, a, b⟩ : In4).d == r) = false from hd', Bool.and_false])
      go_enter Tryd.func66, Tryd.ntmps66
      go_wp2_with fail
      refine (unhide FK _).mono ?_
      rintro _ w1 ⟨rfl, hb1⟩
      have y0 : w1.cell? ⟨w.heap.size, 0, none⟩ = some (.int .i64 0) := (hb1.cell (by simp)).trans (by rw [World.cell?_alloc_at (hn := rfl)]; rfl)
      have y1 : w1.cell? ⟨w.heap.size, 1, none⟩ = some (.int .i64 d) := (hb1.cell (by simp)).trans (by rw [World.cell?_alloc_at (hn := rfl)]; rfl)
      have y2 : w1.cell? ⟨w.heap.size, 2, none⟩ = some (.int .i64 a) := (hb1.cell (by simp)).trans (by rw [World.cell?_alloc_at (hn := rfl)]; rfl)
      have y3 : w1.cell? ⟨w.heap.size, 3, none⟩ = some (.int .i64 b) := (hb1.cell (by simp)).trans (by rw [World.cell?_alloc_at (hn := rfl)]; rfl)
      have hbw : Below w.heap.size w w1 := ((Below.refl _ _).alloc (Nat.le_refl _) _).trans (hb1.mono (by simp))
      clear hb1
      go_wp2_with fail
      go_ret
      exact ⟨ret_bool (unhide HE).symm, hbw⟩
  · have FK := hide (fun w => form_any 1 (by decide) w)
    rw [show formS 1 = ⟨#[114, 114, 45]⟩ from rfl, show ((1 : Nat) : Int) = 1 from rfl] at FK
    by_cases hd : d = r
    · subst hd
      have HE := hide (show wrB ⟨1, d, a, b⟩ d = true by unfold wrB; rw [beq_self_eq_true]; rfl)
      go_enter Tryd.func66, Tryd.ntmps66
      go_wp2_with fail
      refine (unhide FK _).mono ?_
      rintro _ w1 ⟨rfl, hb1⟩
      have y0 : w1.cell? ⟨w.heap.size, 0, none⟩ = some (.int .i64 1) := (hb1.cell (by simp)).trans (by rw [World.cell?_alloc_at (hn := rfl)]; rfl)
      have y1 : w1.cell? ⟨w.heap.size, 1, none⟩ = some (.int .i64 d) := (hb1.cell (by simp)).trans (by rw [World.cell?_alloc_at (hn := rfl)]; rfl)
      have y2 : w1.cell? ⟨w.heap.size, 2, none⟩ = some (.int .i64 a) := (hb1.cell (by simp)).trans (by rw [World.cell?_alloc_at (hn := rfl)]; rfl)
      have y3 : w1.cell? ⟨w.heap.size, 3, none⟩ = some (.int .i64 b) := (hb1.cell (by simp)).trans (by rw [World.cell?_alloc_at (hn := rfl)]; rfl)
      have hbw : Below w.heap.size w w1 := ((Below.refl _ _).alloc (Nat.le_refl _) _).trans (hb1.mono (by simp))
      clear hb1
      go_wp2_with fail
      go_ret
      exact ⟨ret_bool (unhide HE).symm, hbw⟩
    · have hd' : (d == r) = false := by rw [beq_eq_false_iff_ne]; exact hd
      have HE := hide (show wrB ⟨1, d, a, b⟩ r = false by unfold wrB; rw [show ((⟨1, d, a, b⟩ : In4).d == r) = false from hd', Bool.and_false])
      go_enter Tryd.func66, Tryd.ntmps66
      go_wp2_with fail
      refine (unhide FK _).mono ?_
      rintro _ w1 ⟨rfl, hb1⟩
      have y0 : w1.cell? ⟨w.heap.size, 0, none⟩ = some (.int .i64 1) := (hb1.cell (by simp)).trans (by rw [World.cell?_alloc_at (hn := rfl)]; rfl)
      have y1 : w1.cell? ⟨w.heap.size, 1, none⟩ = some (.int .i64 d) := (hb1.cell (by simp)).trans (by rw [World.cell?_alloc_at (hn := rfl)]; rfl)
      have y2 : w1.cell? ⟨w.heap.size, 2, none⟩ = some (.int .i64 a) := (hb1.cell (by simp)).trans (by rw [World.cell?_alloc_at (hn := rfl)]; rfl)
      have y3 : w1.cell? ⟨w.heap.size, 3, none⟩ = some (.int .i64 b) := (hb1.cell (by simp)).trans (by rw [World.cell?_alloc_at (hn := rfl)]; rfl)
      have hbw : Below w.heap.size w w1 := ((Below.refl _ _).alloc (Nat.le_refl _) _).trans (hb1.mono (by simp))
      clear hb1
      go_wp2_with fail
      go_ret
      exact ⟨ret_bool (unhide HE).symm, hbw⟩
  · have FK := hide (fun w => form_any 2 (by decide) w)
    rw [show formS 2 = ⟨#[114, 114, 114]⟩ from rfl, show ((2 : Nat) : Int) = 2 from rfl] at FK
    by_cases hd : d = r
    · subst hd
      have HE := hide (show wrB ⟨2, d, a, b⟩ d = true by unfold wrB; rw [beq_self_eq_true]; rfl)
      go_enter Tryd.func66, Tryd.ntmps66
      go_wp2_with fail
      refine (unhide FK _).mono ?_
      rintro _ w1 ⟨rfl, hb1⟩
      have y0 : w1.cell? ⟨w.heap.size, 0, none⟩ = some (.int .i64 2) := (hb1.cell (by simp)).trans (by rw [World.cell?_alloc_at (hn := rfl)]; rfl)
      have y1 : w1.cell? ⟨w.heap.size, 1, none⟩ = some (.int .i64 d) := (hb1.cell (by simp)).trans (by rw [World.cell?_alloc_at (hn := rfl)]; rfl)
      have y2 : w1.cell? ⟨w.heap.size, 2, none⟩ = some (.int .i64 a) := (hb1.cell (by simp)).trans (by rw [World.cell?_alloc_at (hn := rfl)]; rfl)
      have y3 : w1.cell? ⟨w.heap.size, 3, none⟩ = some (.int .i64 b) := (hb1.cell (by simp)).trans (by rw [World.cell?_alloc_at (hn := rfl)]; rfl)
      have hbw : Below w.heap.size w w1 := ((Below.refl _ _).alloc (Nat.le_refl _) _).trans (hb1.mono (by simp))
      clear hb1
      go_wp2_with fail
      go_ret
      exact ⟨ret_bool (unhide HE).symm, hbw⟩
    · have hd' : (d == r) = false := by rw [beq_eq_false_iff_ne]; exact hd
      have HE := hide (show wrB ⟨2, d, a, b⟩ r = false by unfold wrB; rw [show ((⟨2, d, a, b⟩ : In4).d == r) = false from hd', Bool.and_false])
      go_enter Tryd.func66, Tryd.ntmps66
      go_wp2_with fail
      refine (unhide FK _).mono ?_
      rintro _ w1 ⟨rfl, hb1⟩
      have y0 : w1.cell? ⟨w.heap.size, 0, none⟩ = some (.int .i64 2) := (hb1.cell (by simp)).trans (by rw [World.cell?_alloc_at (hn := rfl)]; rfl)
      have y1 : w1.cell? ⟨w.heap.size, 1, none⟩ = some (.int .i64 d) := (hb1.cell (by simp)).trans (by rw [World.cell?_alloc_at (hn := rfl)]; rfl)
      have y2 : w1.cell? ⟨w.heap.size, 2, none⟩ = some (.int .i64 a) := (hb1.cell (by simp)).trans (by rw [World.cell?_alloc_at (hn := rfl)]; rfl)
      have y3 : w1.cell? ⟨w.heap.size, 3, none⟩ = some (.int .i64 b) := (hb1.cell (by simp)).trans (by rw [World.cell?_alloc_at (hn := rfl)]; rfl)
      have hbw : Below w.heap.size w w1 := ((Below.refl _ _).alloc (Nat.le_refl _) _).trans (hb1.mono (by simp))
      clear hb1
      go_wp2_with fail
      go_ret
      exact ⟨ret_bool (unhide HE).symm, hbw⟩
  · have FK := hide (fun w => form_any 3 (by decide) w)
    rw [show formS 3 = ⟨#[114, 114, 114]⟩ from rfl, show ((3 : Nat) : Int) = 3 from rfl] at FK
    by_cases hd : d = r
    · subst hd
      have HE := hide (show wrB ⟨3, d, a, b⟩ d = true by unfold wrB; rw [beq_self_eq_true]; rfl)
      go_enter Tryd.func66, Tryd.ntmps66
      go_wp2_with fail
      refine (unhide FK _).mono ?_
      rintro _ w1 ⟨rfl, hb1⟩
      have y0 : w1.cell? ⟨w.heap.size, 0, none⟩ = some (.int .i64 3) := (hb1.cell (by simp)).trans (by rw [World.cell?_alloc_at (hn := rfl)]; rfl)
      have y1 : w1.cell? ⟨w.heap.size, 1, none⟩ = some (.int .i64 d) := (hb1.cell (by simp)).trans (by rw [World.cell?_alloc_at (hn := rfl)]; rfl)
      have y2 : w1.cell? ⟨w.heap.size, 2, none⟩ = some (.int .i64 a) := (hb1.cell (by simp)).trans (by rw [World.cell?_alloc_at (hn := rfl)]; rfl)
      have y3 : w1.cell? ⟨w.heap.size, 3, none⟩ = some (.int .i64 b) := (hb1.cell (by simp)).trans (by rw [World.cell?_alloc_at (hn := rfl)]; rfl)
      have hbw : Below w.heap.size w w1 := ((Below.refl _ _).alloc (Nat.le_refl _) _).trans (hb1.mono (by simp))
      clear hb1
      go_wp2_with fail
      go_ret
      exact ⟨ret_bool (unhide HE).symm, hbw⟩
    · have hd' : (d == r) = false := by rw [beq_eq_false_iff_ne]; exact hd
      have HE := hide (show wrB ⟨3, d, a, b⟩ r = false by unfold wrB; rw [show ((⟨3, d, a, b⟩ : In4).d == r) = false from hd', Bool.and_false])
      go_enter Tryd.func66, Tryd.ntmps66
      go_wp2_with fail
      refine (unhide FK _).mono ?_
      rintro _ w1 ⟨rfl, hb1⟩
      have y0 : w1.cell? ⟨w.heap.size, 0, none⟩ = some (.int .i64 3) := (hb1.cell (by simp)).trans (by rw [World.cell?_alloc_at (hn := rfl)]; rfl)
      have y1 : w1.cell? ⟨w.heap.size, 1, none⟩ = some (.int .i64 d) := (hb1.cell (by simp)).trans (by rw [World.cell?_alloc_at (hn := rfl)]; rfl)
      have y2 : w1.cell? ⟨w.heap.size, 2, none⟩ = some (.int .i64 a) := (hb1.cell (by simp)).trans (by rw [World.cell?_alloc_at (hn := rfl)]; rfl)
      have y3 : w1.cell? ⟨w.heap.size, 3, none⟩ = some (.int .i64 b) := (hb1.cell (by simp)).trans (by rw [World.cell?_alloc_at (hn := rfl)]; rfl)
      have hbw : Below w.heap.size w w1 := ((Below.refl _ _).alloc (Nat.le_refl _) _).trans (hb1.mono (by simp))
      clear hb1
      go_wp2_with fail
      go_ret
      exact ⟨ret_bool (unhide HE).symm, hbw⟩
  · have FK := hide (fun w => form_any 4 (by decide) w)
    rw [show formS 4 = ⟨#[114, 114, 114]⟩ from rfl, show ((4 : Nat) : Int) = 4 from rfl] at FK
    by_cases hd : d = r
    · subst hd
      have HE := hide (show wrB ⟨4, d, a, b⟩ d = true by unfold wrB; rw [beq_self_eq_true]; rfl)
      go_enter Tryd.func66, Tryd.ntmps66
      go_wp2_with fail
      refine (unhide FK _).mono ?_
      rintro _ w1 ⟨rfl, hb1⟩
      have y0 : w1.cell? ⟨w.heap.size, 0, none⟩ = some (.int .i64 4) := (hb1.cell (by simp)).trans (by rw [World.cell?_alloc_at (hn := rfl)]; rfl)
      have y1 : w1.cell? ⟨w.heap.size, 1, none⟩ = some (.int .i64 d) := (hb1.cell (by simp)).trans (by rw [World.cell?_alloc_at (hn := rfl)]; rfl)
      have y2 : w1.cell? ⟨w.heap.size, 2, none⟩ = some (.int .i64 a) := (hb1.cell (by simp)).trans (by rw [World.cell?_alloc_at (hn := rfl)]; rfl)
      have y3 : w1.cell? ⟨w.heap.size, 3, none⟩ = some (.int .i64 b) := (hb1.cell (by simp)).trans (by rw [World.cell?_alloc_at (hn := rfl)]; rfl)
      have hbw : Below w.heap.size w w1 := ((Below.refl _ _).alloc (Nat.le_refl _) _).trans (hb1.mono (by simp))
      clear hb1
      go_wp2_with fail
      go_ret
      exact ⟨ret_bool (unhide HE).symm, hbw⟩
    · have hd' : (d == r) = false := by rw [beq_eq_false_iff_ne]; exact hd
      have HE := hide (show wrB ⟨4, d, a, b⟩ r = false by unfold wrB; rw [show ((⟨4, d, a, b⟩ : In4).d == r) = false from hd', Bool.and_false])
      go_enter Tryd.func66, Tryd.ntmps66
      go_wp2_with fail
      refine (unhide FK _).mono ?_
      rintro _ w1 ⟨rfl, hb1⟩
      have y0 : w1.cell? ⟨w.heap.size, 0, none⟩ = some (.int .i64 4) := (hb1.cell (by simp)).trans (by rw [World.cell?_alloc_at (hn := rfl)]; rfl)
      have y1 : w1.cell? ⟨w.heap.size, 1, none⟩ = some (.int .i64 d) := (hb1.cell (by simp)).trans (by rw [World.cell?_alloc_at (hn := rfl)]; rfl)
      have y2 : w1.cell? ⟨w.heap.size, 2, none⟩ = some (.int .i64 a) := (hb1.cell (by simp)).trans (by rw [World.cell?_alloc_at (hn := rfl)]; rfl)
      have y3 : w1.cell? ⟨w.heap.size, 3, none⟩ = some (.int .i64 b) := (hb1.cell (by simp)).trans (by rw [World.cell?_alloc_at (hn := rfl)]; rfl)
      have hbw : Below w.heap.size w w1 := ((Below.refl _ _).alloc (Nat.le_refl _) _).trans (hb1.mono (by simp))
      clear hb1
      go_wp2_with fail
      go_ret
      exact ⟨ret_bool (unhide HE).symm, hbw⟩
  · have FK := hide (fun w => form_any 5 (by decide) w)
    rw [show formS 5 = ⟨#[114, 114, 114]⟩ from rfl, show ((5 : Nat) : Int) = 5 from rfl] at FK
    by_cases hd : d = r
    · subst hd
      have HE := hide (show wrB ⟨5, d, a, b⟩ d = true by unfold wrB; rw [beq_self_eq_true]; rfl)
      go_enter Tryd.func66, Tryd.ntmps66
      go_wp2_with fail
      refine (unhide FK _).mono ?_
      rintro _ w1 ⟨rfl, hb1⟩
      have y0 : w1.cell? ⟨w.heap.size, 0, none⟩ = some (.int .i64 5) := (hb1.cell (by simp)).trans (by rw [World.cell?_alloc_at (hn := rfl)]; rfl)
      have y1 : w1.cell? ⟨w.heap.size, 1, none⟩ = some (.int .i64 d) := (hb1.cell (by simp)).trans (by rw [World.cell?_alloc_at (hn := rfl)]; rfl)
      have y2 : w1.cell? ⟨w.heap.size, 2, none⟩ = some (.int .i64 a) := (hb1.cell (by simp)).trans (by rw [World.cell?_alloc_at (hn := rfl)]; rfl)
      have y3 : w1.cell? ⟨w.heap.size, 3, none⟩ = some (.int .i64 b) := (hb1.cell (by simp)).trans (by rw [World.cell?_alloc_at (hn := rfl)]; rfl)
      have hbw : Below w.heap.size w w1 := ((Below.refl _ _).alloc (Nat.le_refl _) _).trans (hb1.mono (by simp))
      clear hb1
      go_wp2_with fail
      go_ret
      exact ⟨ret_bool (unhide HE).symm, hbw⟩
    · have hd' : (d == r) = false := by rw [beq_eq_false_iff_ne]; exact hd
      have HE := hide (show wrB ⟨5, d, a, b⟩ r = false by unfold wrB; rw [show ((⟨5, d, a, b⟩ : In4).d == r) = false from hd', Bool.and_false])
      go_enter Tryd.func66, Tryd.ntmps66
      go_wp2_with fail
      refine (unhide FK _).mono ?_
      rintro _ w1 ⟨rfl, hb1⟩
      have y0 : w1.cell? ⟨w.heap.size, 0, none⟩ = some (.int .i64 5) := (hb1.cell (by simp)).trans (by rw [World.cell?_alloc_at (hn := rfl)]; rfl)
      have y1 : w1.cell? ⟨w.heap.size, 1, none⟩ = some (.int .i64 d) := (hb1.cell (by simp)).trans (by rw [World.cell?_alloc_at (hn := rfl)]; rfl)
      have y2 : w1.cell? ⟨w.heap.size, 2, none⟩ = some (.int .i64 a) := (hb1.cell (by simp)).trans (by rw [World.cell?_alloc_at (hn := rfl)]; rfl)
      have y3 : w1.cell? ⟨w.heap.size, 3, none⟩ = some (.int .i64 b) := (hb1.cell (by simp)).trans (by rw [World.cell?_alloc_at (hn := rfl)]; rfl)
      have hbw : Below w.heap.size w w1 := ((Below.refl _ _).alloc (Nat.le_refl _) _).trans (hb1.mono (by simp))
      clear hb1
      go_wp2_with fail
      go_ret
      exact ⟨ret_bool (unhide HE).symm, hbw⟩
  · have FK := hide (fun w => form_any 6 (by decide) w)
    rw [show formS 6 = ⟨#[114, 114, 114]⟩ from rfl, show ((6 : Nat) : Int) = 6 from rfl] at FK
    by_cases hd : d = r
    · subst hd
      have HE := hide (show wrB ⟨6, d, a, b⟩ d = true by unfold wrB; rw [beq_self_eq_true]; rfl)
      go_enter Tryd.func66, Tryd.ntmps66
      go_wp2_with fail
      refine (unhide FK _).mono ?_
      rintro _ w1 ⟨rfl, hb1⟩
      have y0 : w1.cell? ⟨w.heap.size, 0, none⟩ = some (.int .i64 6) := (hb1.cell (by simp)).trans (by rw [World.cell?_alloc_at (hn := rfl)]; rfl)
      have y1 : w1.cell? ⟨w.heap.size, 1, none⟩ = some (.int .i64 d) := (hb1.cell (by simp)).trans (by rw [World.cell?_alloc_at (hn := rfl)]; rfl)
      have y2 : w1.cell? ⟨w.heap.size, 2, none⟩ = some (.int .i64 a) := (hb1.cell (by simp)).trans (by rw [World.cell?_alloc_at (hn := rfl)]; rfl)
      have y3 : w1.cell? ⟨w.heap.size, 3, none⟩ = some (.int .i64 b) := (hb1.cell (by simp)).trans (by rw [World.cell?_alloc_at (hn := rfl)]; rfl)
      have hbw : Below w.heap.size w w1 := ((Below.refl _ _).alloc (Nat.le_refl _) _).trans (hb1.mono (by simp))
      clear hb1
      go_wp2_with fail
      go_ret
      exact ⟨ret_bool (unhide HE).symm, hbw⟩
    · have hd' : (d == r) = false := by rw [beq_eq_false_iff_ne]; exact hd
      have HE := hide (show wrB ⟨6, d, a, b⟩ r = false by unfold wrB; rw [show ((⟨6, d, a, b⟩ : In4).d == r) = false from hd', Bool.and_false])
      go_enter Tryd.func66, Tryd.ntmps66
      go_wp2_with fail
      refine (unhide FK _).mono ?_
      rintro _ w1 ⟨rfl, hb1⟩
      have y0 : w1.cell? ⟨w.heap.size, 0, none⟩ = some (.int .i64 6) := (hb1.cell (by simp)).trans (by rw [World.cell?_alloc_at (hn := rfl)]; rfl)
      have y1 : w1.cell? ⟨w.heap.size, 1, none⟩ = some (.int .i64 d) := (hb1.cell (by simp)).trans (by rw [World.cell?_alloc_at (hn := rfl)]; rfl)
      have y2 : w1.cell? ⟨w.heap.size, 2, none⟩ = some (.int .i64 a) := (hb1.cell (by simp)).trans (by rw [World.cell?_alloc_at (hn := rfl)]; rfl)
      have y3 : w1.cell? ⟨w.heap.size, 3, none⟩ = some (.int .i64 b) := (hb1.cell (by simp)).trans (by rw [World.cell?_alloc_at (hn := rfl)]; rfl)
      have hbw : Below w.heap.size w w1 := ((Below.refl _ _).alloc (Nat.le_refl _) _).trans (hb1.mono (by simp))
      clear hb1
      go_wp2_with fail
      go_ret
      exact ⟨ret_bool (unhide HE).symm, hbw⟩
  · have FK := hide (fun w => form_any 7 (by decide) w)
    rw [show formS 7 = ⟨#[45, 116, 45]⟩ from rfl, show ((7 : Nat) : Int) = 7 from rfl] at FK
    have HE := hide (show wrB ⟨7, d, a, b⟩ r = false from rfl)
    go_enter Tryd.func66, Tryd.ntmps66
    go_wp2_with fail
    refine (unhide FK _).mono ?_
    rintro _ w1 ⟨rfl, hb1⟩
    have y0 : w1.cell? ⟨w.heap.size, 0, none⟩ = some (.int .i64 7) := (hb1.cell (by simp)).trans (by rw [World.cell?_alloc_at (hn := rfl)]; rfl)
    have y1 : w1.cell? ⟨w.heap.size, 1, none⟩ = some (.int .i64 d) := (hb1.cell (by simp)).trans (by rw [World.cell?_alloc_at (hn := rfl)]; rfl)
    have y2 : w1.cell? ⟨w.heap.size, 2, none⟩ = some (.int .i64 a) := (hb1.cell (by simp)).trans (by rw [World.cell?_alloc_at (hn := rfl)]; rfl)
    have y3 : w1.cell? ⟨w.heap.size, 3, none⟩ = some (.int .i64 b) := (hb1.cell (by simp)).trans (by rw [World.cell?_alloc_at (hn := rfl)]; rfl)
    have hbw : Below w.heap.size w w1 := ((Below.refl _ _).alloc (Nat.le_refl _) _).trans (hb1.mono (by simp))
    clear hb1
    go_wp2_with fail
    go_ret
    exact ⟨ret_bool (unhide HE).symm, hbw⟩
  · have FK := hide (fun w => form_any 8 (by decide) w)
    rw [show formS 8 = ⟨#[45, 114, 116]⟩ from rfl, show ((8 : Nat) : Int) = 8 from rfl] at FK
    have HE := hide (show wrB ⟨8, d, a, b⟩ r = false from rfl)
    go_enter Tryd.func66, Tryd.ntmps66
    go_wp2_with fail
    refine (unhide FK _).mono ?_
    rintro _ w1 ⟨rfl, hb1⟩
    have y0 : w1.cell? ⟨w.heap.size, 0, none⟩ = some (.int .i64 8) := (hb1.cell (by simp)).trans (by rw [World.cell?_alloc_at (hn := rfl)]; rfl)
    have y1 : w1.cell? ⟨w.heap.size, 1, none⟩ = some (.int .i64 d) := (hb1.cell (by simp)).trans (by rw [World.cell?_alloc_at (hn := rfl)]; rfl)
    have y2 : w1.cell? ⟨w.heap.size, 2, none⟩ = some (.int .i64 a) := (hb1.cell (by simp)).trans (by rw [World.cell?_alloc_at (hn := rfl)]; rfl)
    have y3 : w1.cell? ⟨w.heap.size, 3, none⟩ = some (.int .i64 b) := (hb1.cell (by simp)).trans (by rw [World.cell?_alloc_at (hn := rfl)]; rfl)
    have hbw : Below w.heap.size w w1 := ((Below.refl _ _).alloc (Nat.le_refl _) _).trans (hb1.mono (by simp))
    clear hb1
    go_wp2_with fail
    go_ret
    exact ⟨ret_bool (unhide HE).symm, hbw⟩
  · have FK := hide (fun w => form_any 9 (by decide) w)
    rw [show formS 9 = ⟨#[45, 114, 45]⟩ from rfl, show ((9 : Nat) : Int) = 9 from rfl] at FK
    have HE := hide (show wrB ⟨9, d, a, b⟩ r = false from rfl)
    go_enter Tryd.func66, Tryd.ntmps66
    go_wp2_with fail
    refine (unhide FK _).mono ?_
    rintro _ w1 ⟨rfl, hb1⟩
    have y0 : w1.cell? ⟨w.heap.size, 0, none⟩ = some (.int .i64 9) := (hb1.cell (by simp)).trans (by rw [World.cell?_alloc_at (hn := rfl)]; rfl)
    have y1 : w1.cell? ⟨w.heap.size, 1, none⟩ = some (.int .i64 d) := (hb1.cell (by simp)).trans (by rw [World.cell?_alloc_at (hn := rfl)]; rfl)
    have y2 : w1.cell? ⟨w.heap.size, 2, none⟩ = some (.int .i64 a) := (hb1.cell (by simp)).trans (by rw [World.cell?_alloc_at (hn := rfl)]; rfl)
    have y3 : w1.cell? ⟨w.heap.size, 3, none⟩ = some (.int .i64 b) := (hb1.cell (by simp)).trans (by rw [World.cell?_alloc_at (hn := rfl)]; rfl)
    have hbw : Below w.heap.size w w1 := ((Below.refl _ _).alloc (Nat.le_refl _) _).trans (hb1.mono (by simp))
    clear hb1
    go_wp2_with fail
    go_ret
    exact ⟨ret_bool (unhide HE).symm, hbw⟩
  · have FK := hide (fun w => form_any 10 (by decide) w)
    rw [show formS 10 = ⟨#[45, 114, 45]⟩ from rfl, show ((10 : Nat) : Int) = 10 from rfl] at FK
    have HE := hide (show wrB ⟨10, d, a, b⟩ r = false from rfl)
    go_enter Tryd.func66, Tryd.ntmps66
    go_wp2_with fail
    refine (unhide FK _).mono ?_
    rintro _ w1 ⟨rfl, hb1⟩
    have y0 : w1.cell? ⟨w.heap.size, 0, none⟩ = some (.int .i64 10) := (hb1.cell (by simp)).trans (by rw [World.cell?_alloc_at (hn := rfl)]; rfl)
    have y1 : w1.cell? ⟨w.heap.size, 1, none⟩ = some (.int .i64 d) := (hb1.cell (by simp)).trans (by rw [World.cell?_alloc_at (hn := rfl)]; rfl)
    have y2 : w1.cell? ⟨w.heap.size, 2, none⟩ = some (.int .i64 a) := (hb1.cell (by simp)).trans (by rw [World.cell?_alloc_at (hn := rfl)]; rfl)
    have y3 : w1.cell? ⟨w.heap.size, 3, none⟩ = some (.int .i64 b) := (hb1.cell (by simp)).trans (by rw [World.cell?_alloc_at (hn := rfl)]; rfl)
    have hbw : Below w.heap.size w w1 := ((Below.refl _ _).alloc (Nat.le_refl _) _).trans (hb1.mono (by simp))
    clear hb1
    go_wp2_with fail
    go_ret
    exact ⟨ret_bool (unhide HE).symm, hbw⟩
  · have FK := hide (fun w => form_any 11 (by decide) w)
    rw [show formS 11 = ⟨#[45, 115, 45]⟩ from rfl, show ((11 : Nat) : Int) = 11 from rfl] at FK
    have HE := hide (show wrB ⟨11, d, a, b⟩ r = false from rfl)
    go_enter Tryd.func66, Tryd.ntmps66
    go_wp2_with fail
    refine (unhide FK _).mono ?_
    rintro _ w1 ⟨rfl, hb1⟩
    have y0 : w1.cell? ⟨w.heap.size, 0, none⟩ = some (.int .i64 11) := (hb1.cell (by simp)).trans (by rw [World.cell?_alloc_at (hn := rfl)]; rfl)
    have y1 : w1.cell? ⟨w.heap.size, 1, none⟩ = some (.int .i64 d) := (hb1.cell (by simp)).trans (by rw [World.cell?_alloc_at (hn := rfl)]; rfl)
    have y2 : w1.cell? ⟨w.heap.size, 2, none⟩ = some (.int .i64 a) := (hb1.cell (by simp)).trans (by rw [World.cell?_alloc_at (hn := rfl)]; rfl)
    have y3 : w1.cell? ⟨w.heap.size, 3, none⟩ = some (.int .i64 b) := (hb1.cell (by simp)).trans (by rw [World.cell?_alloc_at (hn := rfl)]; rfl)
    have hbw : Below w.heap.size w w1 := ((Below.refl _ _).alloc (Nat.le_refl _) _).trans (hb1.mono (by simp))
    clear hb1
    go_wp2_with fail
    go_ret
    exact ⟨ret_bool (unhide HE).symm, hbw⟩
  · have FK := hide (fun w => form_any 12 (by decide) w)
    rw [show formS 12 = ⟨#[118, 114, 45]⟩ from rfl, show ((12 : Nat) : Int) = 12 from rfl] at FK
    have HE := hide (show wrB ⟨12, d, a, b⟩ r = false from rfl)
    go_enter Tryd.func66, Tryd.ntmps66
    go_wp2_with fail
    refine (unhide FK _).mono ?_
    rintro _ w1 ⟨rfl, hb1⟩
    have y0 : w1.cell? ⟨w.heap.size, 0, none⟩ = some (.int .i64 12) := (hb1.cell (by simp)).trans (by rw [World.cell?_alloc_at (hn := rfl)]; rfl)
    have y1 : w1.cell? ⟨w.heap.size, 1, none⟩ = some (.int .i64 d) := (hb1.cell (by simp)).trans (by rw [World.cell?_alloc_at (hn := rfl)]; rfl)
    have y2 : w1.cell? ⟨w.heap.size, 2, none⟩ = some (.int .i64 a) := (hb1.cell (by simp)).trans (by rw [World.cell?_alloc_at (hn := rfl)]; rfl)
    have y3 : w1.cell? ⟨w.heap.size, 3, none⟩ = some (.int .i64 b) := (hb1.cell (by simp)).trans (by rw [World.cell?_alloc_at (hn := rfl)]; rfl)
    have hbw : Below w.heap.size w w1 := ((Below.refl _ _).alloc (Nat.le_refl _) _).trans (hb1.mono (by simp))
    clear hb1
    go_wp2_with fail
    go_ret
    exact ⟨ret_bool (unhide HE).symm, hbw⟩
  · have FK := hide (fun w => form_any 13 (by decide) w)
    rw [show formS 13 = ⟨#[118, 99, 45]⟩ from rfl, show ((13 : Nat) : Int) = 13 from rfl] at FK
    have HE := hide (show wrB ⟨13, d, a, b⟩ r = false from rfl)
    go_enter Tryd.func66, Tryd.ntmps66
    go_wp2_with fail
    refine (unhide FK _).mono ?_
    rintro _ w1 ⟨rfl, hb1⟩
    have y0 : w1.cell? ⟨w.heap.size, 0, none⟩ = some (.int .i64 13) := (hb1.cell (by simp)).trans (by rw [World.cell?_alloc_at (hn := rfl)]; rfl)
    have y1 : w1.cell? ⟨w.heap.size, 1, none⟩ = some (.int .i64 d) := (hb1.cell (by simp)).trans (by rw [World.cell?_alloc_at (hn := rfl)]; rfl)
    have y2 : w1.cell? ⟨w.heap.size, 2, none⟩ = some (.int .i64 a) := (hb1.cell (by simp)).trans (by rw [World.cell?_alloc_at (hn := rfl)]; rfl)
    have y3 : w1.cell? ⟨w.heap.size, 3, none⟩ = some (.int .i64 b) := (hb1.cell (by simp)).trans (by rw [World.cell?_alloc_at (hn := rfl)]; rfl)
    have hbw : Below w.heap.size w w1 := ((Below.refl _ _).alloc (Nat.le_refl _) _).trans (hb1.mono (by simp))
    clear hb1
    go_wp2_with fail
    go_ret
    exact ⟨ret_bool (unhide HE).symm, hbw⟩
  · have FK := hide (fun w => form_any 14 (by decide) w)
    rw [show formS 14 = ⟨#[118, 45, 45]⟩ from rfl, show ((14 : Nat) : Int) = 14 from rfl] at FK
    have HE := hide (show wrB ⟨14, d, a, b⟩ r = false from rfl)
    go_enter Tryd.func66, Tryd.ntmps66
    go_wp2_with fail
    refine (unhide FK _).mono ?_
    rintro _ w1 ⟨rfl, hb1⟩
    have y0 : w1.cell? ⟨w.heap.size, 0, none⟩ = some (.int .i64 14) := (hb1.cell (by simp)).trans (by rw [World.cell?_alloc_at (hn := rfl)]; rfl)
    have y1 : w1.cell? ⟨w.heap.size, 1, none⟩ = some (.int .i64 d) := (hb1.cell (by simp)).trans (by rw [World.cell?_alloc_at (hn := rfl)]; rfl)
    have y2 : w1.cell? ⟨w.heap.size, 2, none⟩ = some (.int .i64 a) := (hb1.cell (by simp)).trans (by rw [World.cell?_alloc_at (hn := rfl)]; rfl)
    have y3 : w1.cell? ⟨w.heap.size, 3, none⟩ = some (.int .i64 b) := (hb1.cell (by simp)).trans (by rw [World.cell?_alloc_at (hn := rfl)]; rfl)
    have hbw : Below w.heap.size w w1 := ((Below.refl _ _).alloc (Nat.le_refl _) _).trans (hb1.mono (by simp))
    clear hb1
    go_wp2_with fail
    go_ret
    exact ⟨ret_bool (unhide HE).symm, hbw⟩
end Go.Proofs.YtoepcplbpochpaaDoor
