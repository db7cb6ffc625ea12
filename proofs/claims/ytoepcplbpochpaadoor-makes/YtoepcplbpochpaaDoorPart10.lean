/-
  What the document's own small functions answer: lodgeref.reads, says, nexts.
-/
import Derived.Test.YtoepcplbpochpaaDoorPart9

namespace Go.Proofs.YtoepcplbpochpaaDoor
open Go.RowKit

theorem rdC_of {op d a b r : Int} : rdC ⟨op, d, a, b⟩ r = (if (op = 1 ∨ (2 ≤ op ∧ op ≤ 6) ∨ op = 8 ∨ op = 9 ∨ op = 10) ∧ a = r then 1 else 0) + (if (2 ≤ op ∧ op ≤ 6) ∧ b = r then 1 else 0) := rfl
set_option maxRecDepth 100000 in
set_option maxHeartbeats 8000000 in
theorem refReads_any (op d a b r : Int) (h : 0 ≤ op ∧ op ≤ 14) (w : World) :
    Calls Tryd.prog 65 #[.agg #[.int .i64 op, .int .i64 d, .int .i64 a, .int .i64 b], .int .i64 r] w fun e w' => e = .returned (.int .i64 (rdC ⟨op, d, a, b⟩ r : Nat)) ∧ Below w.heap.size w w' := by
  rcases (show op = 0 ∨ op = 1 ∨ op = 2 ∨ op = 3 ∨ op = 4 ∨ op = 5 ∨ op = 6 ∨ op = 7 ∨ op = 8 ∨ op = 9 ∨ op = 10 ∨ op = 11 ∨ op = 12 ∨ op = 13 ∨ op = 14 by omega) with rfl | rfl | rfl | rfl | rfl | rfl | rfl | rfl | rfl | rfl | rfl | rfl | rfl | rfl | rfl
  · have FK := hide (fun w => form_any 0 (by decide) w)
    rw [show formS 0 = ⟨#[114, 99, 45]⟩ from rfl, show ((0 : Nat) : Int) = 0 from rfl] at FK
    have HE := hide (show rdC ⟨0, d, a, b⟩ r = 0 by rw [rdC_of, if_neg (fun h => absurd h.1 (by decide)), if_neg (fun h => absurd h.1 (by decide))])
    go_enter Tryd.func65, Tryd.ntmps65
    go_wp2_with fail
    refine (unhide FK _).mono ?_
    rintro _ w1 ⟨rfl, hb1⟩
    have y0 : w1.cell? ⟨w.heap.size, 0, none⟩ = some (.int .i64 0) := (hb1.cell (by simp)).trans (by rw [World.cell?_alloc_at (hn := rfl)]; rfl)
    have y1 : w1.cell? ⟨w.heap.size, 1, none⟩ = some (.int .i64 d) := (hb1.cell (by simp)).trans (by rw [World.cell?_alloc_at (hn := rfl)]; rfl)
    have y2 : w1.cell? ⟨w.heap.size, 2, none⟩ = some (.int .i64 a) := (hb1.cell (by simp)).trans (by rw [World.cell?_alloc_at (hn := rfl)]; rfl)
    have y3 : w1.cell? ⟨w.heap.size, 3, none⟩ = some (.int .i64 b) := (hb1.cell (by simp)).trans (by rw [World.cell?_alloc_at (hn := rfl)]; rfl)
    have hbw : Below w.heap.size w w1 := ((Below.refl _ _).alloc (Nat.le_refl _) _).trans (hb1.mono (by simp))
    clear hb1
    go_wp2_with fail
    go_ret
    exact ⟨by rw [unhide HE]; rfl, hbw⟩
  · have FK := hide (fun w => form_any 1 (by decide) w)
    rw [show formS 1 = ⟨#[114, 114, 45]⟩ from rfl, show ((1 : Nat) : Int) = 1 from rfl] at FK
    by_cases ha : a = r
    · subst ha
      have HE := hide (show rdC ⟨1, d, a, b⟩ a = 1 by rw [rdC_of, if_pos ⟨by decide, rfl⟩, if_neg (fun h => absurd h.1 (by decide))])
      go_enter Tryd.func65, Tryd.ntmps65
      go_wp2_with fail
      refine (unhide FK _).mono ?_
      rintro _ w1 ⟨rfl, hb1⟩
      have y0 : w1.cell? ⟨w.heap.size, 0, none⟩ = some (.int .i64 1) := (hb1.cell (by simp)).trans (by rw [World.cell?_alloc_at (hn := rfl)]; rfl)
      have y1 : w1.cell? ⟨w.heap.size, 1, none⟩ = some (.int .i64 d) := (hb1.cell (by simp)).trans (by rw [World.cell?_alloc_at (hn := rfl)]; rfl)
      have y2 : w1.cell? ⟨w.heap.size, 2, none⟩ = some (.int .i64 a) := (hb1.cell (by simp)).trans (by rw [World.cell?_alloc_at (hn := rfl)]; rfl)
      have y3 : w1.cell? ⟨w.heap.size, 3, none⟩ = some (.int .i64 b) := (hb1.cell (by simp)).trans (by rw [World.cell?_alloc_at (hn := rfl)]; rfl)
      have hbw : Below w.heap.size w w1 := ((Below.refl _ _).alloc (Nat.le_refl _) _).trans (hb1.mono (by simp))
      clear hb1
      go_wp2_with fail
      go_ret
      exact ⟨by rw [unhide HE]; rfl, hbw⟩
    · have ha2 : (a == r) = false := by rw [beq_eq_false_iff_ne]; exact ha
      have HE := hide (show rdC ⟨1, d, a, b⟩ r = 0 by rw [rdC_of, if_neg (fun h => ha h.2), if_neg (fun h => absurd h.1 (by decide))])
      go_enter Tryd.func65, Tryd.ntmps65
      go_wp2_with fail
      refine (unhide FK _).mono ?_
      rintro _ w1 ⟨rfl, hb1⟩
      have y0 : w1.cell? ⟨w.heap.size, 0, none⟩ = some (.int .i64 1) := (hb1.cell (by simp)).trans (by rw [World.cell?_alloc_at (hn := rfl)]; rfl)
      have y1 : w1.cell? ⟨w.heap.size, 1, none⟩ = some (.int .i64 d) := (hb1.cell (by simp)).trans (by rw [World.cell?_alloc_at (hn := rfl)]; rfl)
      have y2 : w1.cell? ⟨w.heap.size, 2, none⟩ = some (.int .i64 a) := (hb1.cell (by simp)).trans (by rw [World.cell?_alloc_at (hn := rfl)]; rfl)
      have y3 : w1.cell? ⟨w.heap.size, 3, none⟩ = some (.int .i64 b) := (hb1.cell (by simp)).trans (by rw [World.cell?_alloc_at (hn := rfl)]; rfl)
      have hbw : Below w.heap.size w w1 := ((Below.refl _ _).alloc (Nat.le_refl _) _).trans (hb1.mono (by simp))
      clear hb1
      go_wp2_with fail
      go_ret
      exact ⟨by rw [unhide HE]; rfl, hbw⟩
  · have FK := hide (fun w => form_any 2 (by decide) w)
    rw [show formS 2 = ⟨#[114, 114, 114]⟩ from rfl, show ((2 : Nat) : Int) = 2 from rfl] at FK
    by_cases ha : a = r
    · subst ha
      by_cases hb : b = a
      · subst hb
        have HE := hide (show rdC ⟨2, d, b, b⟩ b = 2 by rw [rdC_of, if_pos ⟨by decide, rfl⟩, if_pos ⟨by decide, rfl⟩])
        go_enter Tryd.func65, Tryd.ntmps65
        go_wp2_with fail
        refine (unhide FK _).mono ?_
        rintro _ w1 ⟨rfl, hb1⟩
        have y0 : w1.cell? ⟨w.heap.size, 0, none⟩ = some (.int .i64 2) := (hb1.cell (by simp)).trans (by rw [World.cell?_alloc_at (hn := rfl)]; rfl)
        have y1 : w1.cell? ⟨w.heap.size, 1, none⟩ = some (.int .i64 d) := (hb1.cell (by simp)).trans (by rw [World.cell?_alloc_at (hn := rfl)]; rfl)
        have y2 : w1.cell? ⟨w.heap.size, 2, none⟩ = some (.int .i64 b) := (hb1.cell (by simp)).trans (by rw [World.cell?_alloc_at (hn := rfl)]; rfl)
        have y3 : w1.cell? ⟨w.heap.size, 3, none⟩ = some (.int .i64 b) := (hb1.cell (by simp)).trans (by rw [World.cell?_alloc_at (hn := rfl)]; rfl)
        have hbw : Below w.heap.size w w1 := ((Below.refl _ _).alloc (Nat.le_refl _) _).trans (hb1.mono (by simp))
        clear hb1
        go_wp2_with fail
        go_ret
        exact ⟨by rw [unhide HE]; rfl, hbw⟩
      · have hb2 : (b == a) = false := by rw [beq_eq_false_iff_ne]; exact hb
        have HE := hide (show rdC ⟨2, d, a, b⟩ a = 1 by rw [rdC_of, if_pos ⟨by decide, rfl⟩, if_neg (fun h => hb h.2)])
        go_enter Tryd.func65, Tryd.ntmps65
        go_wp2_with fail
        refine (unhide FK _).mono ?_
        rintro _ w1 ⟨rfl, hb1⟩
        have y0 : w1.cell? ⟨w.heap.size, 0, none⟩ = some (.int .i64 2) := (hb1.cell (by simp)).trans (by rw [World.cell?_alloc_at (hn := rfl)]; rfl)
        have y1 : w1.cell? ⟨w.heap.size, 1, none⟩ = some (.int .i64 d) := (hb1.cell (by simp)).trans (by rw [World.cell?_alloc_at (hn := rfl)]; rfl)
        have y2 : w1.cell? ⟨w.heap.size, 2, none⟩ = some (.int .i64 a) := (hb1.cell (by simp)).trans (by rw [World.cell?_alloc_at (hn := rfl)]; rfl)
        have y3 : w1.cell? ⟨w.heap.size, 3, none⟩ = some (.int .i64 b) := (hb1.cell (by simp)).trans (by rw [World.cell?_alloc_at (hn := rfl)]; rfl)
        have hbw : Below w.heap.size w w1 := ((Below.refl _ _).alloc (Nat.le_refl _) _).trans (hb1.mono (by simp))
        clear hb1
        go_wp2_with fail
        go_ret
        exact ⟨by rw [unhide HE]; rfl, hbw⟩
    · have ha2 : (a == r) = false := by rw [beq_eq_false_iff_ne]; exact ha
      by_cases hb : b = r
      · subst hb
        have HE := hide (show rdC ⟨2, d, a, b⟩ b = 1 by rw [rdC_of, if_neg (fun h => ha h.2), if_pos ⟨by decide, rfl⟩])
        go_enter Tryd.func65, Tryd.ntmps65
        go_wp2_with fail
        refine (unhide FK _).mono ?_
        rintro _ w1 ⟨rfl, hb1⟩
        have y0 : w1.cell? ⟨w.heap.size, 0, none⟩ = some (.int .i64 2) := (hb1.cell (by simp)).trans (by rw [World.cell?_alloc_at (hn := rfl)]; rfl)
        have y1 : w1.cell? ⟨w.heap.size, 1, none⟩ = some (.int .i64 d) := (hb1.cell (by simp)).trans (by rw [World.cell?_alloc_at (hn := rfl)]; rfl)
        have y2 : w1.cell? ⟨w.heap.size, 2, none⟩ = some (.int .i64 a) := (hb1.cell (by simp)).trans (by rw [World.cell?_alloc_at (hn := rfl)]; rfl)
        have y3 : w1.cell? ⟨w.heap.size, 3, none⟩ = some (.int .i64 b) := (hb1.cell (by simp)).trans (by rw [World.cell?_alloc_at (hn := rfl)]; rfl)
        have hbw : Below w.heap.size w w1 := ((Below.refl _ _).alloc (Nat.le_refl _) _).trans (hb1.mono (by simp))
        clear hb1
        go_wp2_with fail
        go_ret
        exact ⟨by rw [unhide HE]; rfl, hbw⟩
      · have hb2 : (b == r) = false := by rw [beq_eq_false_iff_ne]; exact hb
        have HE := hide (show rdC ⟨2, d, a, b⟩ r = 0 by rw [rdC_of, if_neg (fun h => ha h.2), if_neg (fun h => hb h.2)])
        go_enter Tryd.func65, Tryd.ntmps65
        go_wp2_with fail
        refine (unhide FK _).mono ?_
        rintro _ w1 ⟨rfl, hb1⟩
        have y0 : w1.cell? ⟨w.heap.size, 0, none⟩ = some (.int .i64 2) := (hb1.cell (by simp)).trans (by rw [World.cell?_alloc_at (hn := rfl)]; rfl)
        have y1 : w1.cell? ⟨w.heap.size, 1, none⟩ = some (.int .i64 d) := (hb1.cell (by simp)).trans (by rw [World.cell?_alloc_at (hn := rfl)]; rfl)
        have y2 : w1.cell? ⟨w.heap.size, 2, none⟩ = some (.int .i64 a) := (hb1.cell (by simp)).trans (by rw [World.cell?_alloc_at (hn := rfl)]; rfl)
        have y3 : w1.cell? ⟨w.heap.size, 3, none⟩ = some (.int .i64 b) := (hb1.cell (by simp)).trans (by rw [World.cell?_alloc_at (hn := rfl)]; rfl)
        have hbw : Below w.heap.size w w1 := ((Below.refl _ _).alloc (Nat.le_refl _) _).trans (hb1.mono (by simp))
        clear hb1
        go_wp2_with fail
        go_ret
        exact ⟨by rw [unhide HE]; rfl, hbw⟩
  · have FK := hide (fun w => form_any 3 (by decide) w)
    rw [show formS 3 = ⟨#[114, 114, 114]⟩ from rfl, show ((3 : Nat) : Int) = 3 from rfl] at FK
    by_cases ha : a = r
    · subst ha
      by_cases hb : b = a
      · subst hb
        have HE := hide (show rdC ⟨3, d, b, b⟩ b = 2 by rw [rdC_of, if_pos ⟨by decide, rfl⟩, if_pos ⟨by decide, rfl⟩])
        go_enter Tryd.func65, Tryd.ntmps65
        go_wp2_with fail
        refine (unhide FK _).mono ?_
        rintro _ w1 ⟨rfl, hb1⟩
        have y0 : w1.cell? ⟨w.heap.size, 0, none⟩ = some (.int .i64 3) := (hb1.cell (by simp)).trans (by rw [World.cell?_alloc_at (hn := rfl)]; rfl)
        have y1 : w1.cell? ⟨w.heap.size, 1, none⟩ = some (.int .i64 d) := (hb1.cell (by simp)).trans (by rw [World.cell?_alloc_at (hn := rfl)]; rfl)
        have y2 : w1.cell? ⟨w.heap.size, 2, none⟩ = some (.int .i64 b) := (hb1.cell (by simp)).trans (by rw [World.cell?_alloc_at (hn := rfl)]; rfl)
        have y3 : w1.cell? ⟨w.heap.size, 3, none⟩ = some (.int .i64 b) := (hb1.cell (by simp)).trans (by rw [World.cell?_alloc_at (hn := rfl)]; rfl)
        have hbw : Below w.heap.size w w1 := ((Below.refl _ _).alloc (Nat.le_refl _) _).trans (hb1.mono (by simp))
        clear hb1
        go_wp2_with fail
        go_ret
        exact ⟨by rw [unhide HE]; rfl, hbw⟩
      · have hb2 : (b == a) = false := by rw [beq_eq_false_iff_ne]; exact hb
        have HE := hide (show rdC ⟨3, d, a, b⟩ a = 1 by rw [rdC_of, if_pos ⟨by decide, rfl⟩, if_neg (fun h => hb h.2)])
        go_enter Tryd.func65, Tryd.ntmps65
        go_wp2_with fail
        refine (unhide FK _).mono ?_
        rintro _ w1 ⟨rfl, hb1⟩
        have y0 : w1.cell? ⟨w.heap.size, 0, none⟩ = some (.int .i64 3) := (hb1.cell (by simp)).trans (by rw [World.cell?_alloc_at (hn := rfl)]; rfl)
        have y1 : w1.cell? ⟨w.heap.size, 1, none⟩ = some (.int .i64 d) := (hb1.cell (by simp)).trans (by rw [World.cell?_alloc_at (hn := rfl)]; rfl)
        have y2 : w1.cell? ⟨w.heap.size, 2, none⟩ = some (.int .i64 a) := (hb1.cell (by simp)).trans (by rw [World.cell?_alloc_at (hn := rfl)]; rfl)
        have y3 : w1.cell? ⟨w.heap.size, 3, none⟩ = some (.int .i64 b) := (hb1.cell (by simp)).trans (by rw [World.cell?_alloc_at (hn := rfl)]; rfl)
        have hbw : Below w.heap.size w w1 := ((Below.refl _ _).alloc (Nat.le_refl _) _).trans (hb1.mono (by simp))
        clear hb1
        go_wp2_with fail
        go_ret
        exact ⟨by rw [unhide HE]; rfl, hbw⟩
    · have ha2 : (a == r) = false := by rw [beq_eq_false_iff_ne]; exact ha
      by_cases hb : b = r
      · subst hb
        have HE := hide (show rdC ⟨3, d, a, b⟩ b = 1 by rw [rdC_of, if_neg (fun h => ha h.2), if_pos ⟨by decide, rfl⟩])
        go_enter Tryd.func65, Tryd.ntmps65
        go_wp2_with fail
        refine (unhide FK _).mono ?_
        rintro _ w1 ⟨rfl, hb1⟩
        have y0 : w1.cell? ⟨w.heap.size, 0, none⟩ = some (.int .i64 3) := (hb1.cell (by simp)).trans (by rw [World.cell?_alloc_at (hn := rfl)]; rfl)
        have y1 : w1.cell? ⟨w.heap.size, 1, none⟩ = some (.int .i64 d) := (hb1.cell (by simp)).trans (by rw [World.cell?_alloc_at (hn := rfl)]; rfl)
        have y2 : w1.cell? ⟨w.heap.size, 2, none⟩ = some (.int .i64 a) := (hb1.cell (by simp)).trans (by rw [World.cell?_alloc_at (hn := rfl)]; rfl)
        have y3 : w1.cell? ⟨w.heap.size, 3, none⟩ = some (.int .i64 b) := (hb1.cell (by simp)).trans (by rw [World.cell?_alloc_at (hn := rfl)]; rfl)
        have hbw : Below w.heap.size w w1 := ((Below.refl _ _).alloc (Nat.le_refl _) _).trans (hb1.mono (by simp))
        clear hb1
        go_wp2_with fail
        go_ret
        exact ⟨by rw [unhide HE]; rfl, hbw⟩
      · have hb2 : (b == r) = false := by rw [beq_eq_false_iff_ne]; exact hb
        have HE := hide (show rdC ⟨3, d, a, b⟩ r = 0 by rw [rdC_of, if_neg (fun h => ha h.2), if_neg (fun h => hb h.2)])
        go_enter Tryd.func65, Tryd.ntmps65
        go_wp2_with fail
        refine (unhide FK _).mono ?_
        rintro _ w1 ⟨rfl, hb1⟩
        have y0 : w1.cell? ⟨w.heap.size, 0, none⟩ = some (.int .i64 3) := (hb1.cell (by simp)).trans (by rw [World.cell?_alloc_at (hn := rfl)]; rfl)
        have y1 : w1.cell? ⟨w.heap.size, 1, none⟩ = some (.int .i64 d) := (hb1.cell (by simp)).trans (by rw [World.cell?_alloc_at (hn := rfl)]; rfl)
        have y2 : w1.cell? ⟨w.heap.size, 2, none⟩ = some (.int .i64 a) := (hb1.cell (by simp)).trans (by rw [World.cell?_alloc_at (hn := rfl)]; rfl)
        have y3 : w1.cell? ⟨w.heap.size, 3, none⟩ = some (.int .i64 b) := (hb1.cell (by simp)).trans (by rw [World.cell?_alloc_at (hn := rfl)]; rfl)
        have hbw : Below w.heap.size w w1 := ((Below.refl _ _).alloc (Nat.le_refl _) _).trans (hb1.mono (by simp))
        clear hb1
        go_wp2_with fail
        go_ret
        exact ⟨by rw [unhide HE]; rfl, hbw⟩
  · have FK := hide (fun w => form_any 4 (by decide) w)
    rw [show formS 4 = ⟨#[114, 114, 114]⟩ from rfl, show ((4 : Nat) : Int) = 4 from rfl] at FK
    by_cases ha : a = r
    · subst ha
      by_cases hb : b = a
      · subst hb
        have HE := hide (show rdC ⟨4, d, b, b⟩ b = 2 by rw [rdC_of, if_pos ⟨by decide, rfl⟩, if_pos ⟨by decide, rfl⟩])
        go_enter Tryd.func65, Tryd.ntmps65
        go_wp2_with fail
        refine (unhide FK _).mono ?_
        rintro _ w1 ⟨rfl, hb1⟩
        have y0 : w1.cell? ⟨w.heap.size, 0, none⟩ = some (.int .i64 4) := (hb1.cell (by simp)).trans (by rw [World.cell?_alloc_at (hn := rfl)]; rfl)
        have y1 : w1.cell? ⟨w.heap.size, 1, none⟩ = some (.int .i64 d) := (hb1.cell (by simp)).trans (by rw [World.cell?_alloc_at (hn := rfl)]; rfl)
        have y2 : w1.cell? ⟨w.heap.size, 2, none⟩ = some (.int .i64 b) := (hb1.cell (by simp)).trans (by rw [World.cell?_alloc_at (hn := rfl)]; rfl)
        have y3 : w1.cell? ⟨w.heap.size, 3, none⟩ = some (.int .i64 b) := (hb1.cell (by simp)).trans (by rw [World.cell?_alloc_at (hn := rfl)]; rfl)
        have hbw : Below w.heap.size w w1 := ((Below.refl _ _).alloc (Nat.le_refl _) _).trans (hb1.mono (by simp))
        clear hb1
        go_wp2_with fail
        go_ret
        exact ⟨by rw [unhide HE]; rfl, hbw⟩
      · have hb2 : (b == a) = false := by rw [beq_eq_false_iff_ne]; exact hb
        have HE := hide (show rdC ⟨4, d, a, b⟩ a = 1 by rw [rdC_of, if_pos ⟨by decide, rfl⟩, if_neg (fun h => hb h.2)])
        go_enter Tryd.func65, Tryd.ntmps65
        go_wp2_with fail
        refine (unhide FK _).mono ?_
        rintro _ w1 ⟨rfl, hb1⟩
        have y0 : w1.cell? ⟨w.heap.size, 0, none⟩ = some (.int .i64 4) := (hb1.cell (by simp)).trans (by rw [World.cell?_alloc_at (hn := rfl)]; rfl)
        have y1 : w1.cell? ⟨w.heap.size, 1, none⟩ = some (.int .i64 d) := (hb1.cell (by simp)).trans (by rw [World.cell?_alloc_at (hn := rfl)]; rfl)
        have y2 : w1.cell? ⟨w.heap.size, 2, none⟩ = some (.int .i64 a) := (hb1.cell (by simp)).trans (by rw [World.cell?_alloc_at (hn := rfl)]; rfl)
        have y3 : w1.cell? ⟨w.heap.size, 3, none⟩ = some (.int .i64 b) := (hb1.cell (by simp)).trans (by rw [World.cell?_alloc_at (hn := rfl)]; rfl)
        have hbw : Below w.heap.size w w1 := ((Below.refl _ _).alloc (Nat.le_refl _) _).trans (hb1.mono (by simp))
        clear hb1
        go_wp2_with fail
        go_ret
        exact ⟨by rw [unhide HE]; rfl, hbw⟩
    · have ha2 : (a == r) = false := by rw [beq_eq_false_iff_ne]; exact ha
      by_cases hb : b = r
      · subst hb
        have HE := hide (show rdC ⟨4, d, a, b⟩ b = 1 by rw [rdC_of, if_neg (fun h => ha h.2), if_pos ⟨by decide, rfl⟩])
        go_enter Tryd.func65, Tryd.ntmps65
        go_wp2_with fail
        refine (unhide FK _).mono ?_
        rintro _ w1 ⟨rfl, hb1⟩
        have y0 : w1.cell? ⟨w.heap.size, 0, none⟩ = some (.int .i64 4) := (hb1.cell (by simp)).trans (by rw [World.cell?_alloc_at (hn := rfl)]; rfl)
        have y1 : w1.cell? ⟨w.heap.size, 1, none⟩ = some (.int .i64 d) := (hb1.cell (by simp)).trans (by rw [World.cell?_alloc_at (hn := rfl)]; rfl)
        have y2 : w1.cell? ⟨w.heap.size, 2, none⟩ = some (.int .i64 a) := (hb1.cell (by simp)).trans (by rw [World.cell?_alloc_at (hn := rfl)]; rfl)
        have y3 : w1.cell? ⟨w.heap.size, 3, none⟩ = some (.int .i64 b) := (hb1.cell (by simp)).trans (by rw [World.cell?_alloc_at (hn := rfl)]; rfl)
        have hbw : Below w.heap.size w w1 := ((Below.refl _ _).alloc (Nat.le_refl _) _).trans (hb1.mono (by simp))
        clear hb1
        go_wp2_with fail
        go_ret
        exact ⟨by rw [unhide HE]; rfl, hbw⟩
      · have hb2 : (b == r) = false := by rw [beq_eq_false_iff_ne]; exact hb
        have HE := hide (show rdC ⟨4, d, a, b⟩ r = 0 by rw [rdC_of, if_neg (fun h => ha h.2), if_neg (fun h => hb h.2)])
        go_enter Tryd.func65, Tryd.ntmps65
        go_wp2_with fail
        refine (unhide FK _).mono ?_
        rintro _ w1 ⟨rfl, hb1⟩
        have y0 : w1.cell? ⟨w.heap.size, 0, none⟩ = some (.int .i64 4) := (hb1.cell (by simp)).trans (by rw [World.cell?_alloc_at (hn := rfl)]; rfl)
        have y1 : w1.cell? ⟨w.heap.size, 1, none⟩ = some (.int .i64 d) := (hb1.cell (by simp)).trans (by rw [World.cell?_alloc_at (hn := rfl)]; rfl)
        have y2 : w1.cell? ⟨w.heap.size, 2, none⟩ = some (.int .i64 a) := (hb1.cell (by simp)).trans (by rw [World.cell?_alloc_at (hn := rfl)]; rfl)
        have y3 : w1.cell? ⟨w.heap.size, 3, none⟩ = some (.int .i64 b) := (hb1.cell (by simp)).trans (by rw [World.cell?_alloc_at (hn := rfl)]; rfl)
        have hbw : Below w.heap.size w w1 := ((Below.refl _ _).alloc (Nat.le_refl _) _).trans (hb1.mono (by simp))
        clear hb1
        go_wp2_with fail
        go_ret
        exact ⟨by rw [unhide HE]; rfl, hbw⟩
  · have FK := hide (fun w => form_any 5 (by decide) w)
    rw [show formS 5 = ⟨#[114, 114, 114]⟩ from rfl, show ((5 : Nat) : Int) = 5 from rfl] at FK
    by_cases ha : a = r
    · subst ha
      by_cases hb : b = a
      · subst hb
        have HE := hide (show rdC ⟨5, d, b, b⟩ b = 2 by rw [rdC_of, if_pos ⟨by decide, rfl⟩, if_pos ⟨by decide, rfl⟩])
        go_enter Tryd.func65, Tryd.ntmps65
        go_wp2_with fail
        refine (unhide FK _).mono ?_
        rintro _ w1 ⟨rfl, hb1⟩
        have y0 : w1.cell? ⟨w.heap.size, 0, none⟩ = some (.int .i64 5) := (hb1.cell (by simp)).trans (by rw [World.cell?_alloc_at (hn := rfl)]; rfl)
        have y1 : w1.cell? ⟨w.heap.size, 1, none⟩ = some (.int .i64 d) := (hb1.cell (by simp)).trans (by rw [World.cell?_alloc_at (hn := rfl)]; rfl)
        have y2 : w1.cell? ⟨w.heap.size, 2, none⟩ = some (.int .i64 b) := (hb1.cell (by simp)).trans (by rw [World.cell?_alloc_at (hn := rfl)]; rfl)
        have y3 : w1.cell? ⟨w.heap.size, 3, none⟩ = some (.int .i64 b) := (hb1.cell (by simp)).trans (by rw [World.cell?_alloc_at (hn := rfl)]; rfl)
        have hbw : Below w.heap.size w w1 := ((Below.refl _ _).alloc (Nat.le_refl _) _).trans (hb1.mono (by simp))
        clear hb1
        go_wp2_with fail
        go_ret
        exact ⟨by rw [unhide HE]; rfl, hbw⟩
      · have hb2 : (b == a) = false := by rw [beq_eq_false_iff_ne]; exact hb
        have HE := hide (show rdC ⟨5, d, a, b⟩ a = 1 by rw [rdC_of, if_pos ⟨by decide, rfl⟩, if_neg (fun h => hb h.2)])
        go_enter Tryd.func65, Tryd.ntmps65
        go_wp2_with fail
        refine (unhide FK _).mono ?_
        rintro _ w1 ⟨rfl, hb1⟩
        have y0 : w1.cell? ⟨w.heap.size, 0, none⟩ = some (.int .i64 5) := (hb1.cell (by simp)).trans (by rw [World.cell?_alloc_at (hn := rfl)]; rfl)
        have y1 : w1.cell? ⟨w.heap.size, 1, none⟩ = some (.int .i64 d) := (hb1.cell (by simp)).trans (by rw [World.cell?_alloc_at (hn := rfl)]; rfl)
        have y2 : w1.cell? ⟨w.heap.size, 2, none⟩ = some (.int .i64 a) := (hb1.cell (by simp)).trans (by rw [World.cell?_alloc_at (hn := rfl)]; rfl)
        have y3 : w1.cell? ⟨w.heap.size, 3, none⟩ = some (.int .i64 b) := (hb1.cell (by simp)).trans (by rw [World.cell?_alloc_at (hn := rfl)]; rfl)
        have hbw : Below w.heap.size w w1 := ((Below.refl _ _).alloc (Nat.le_refl _) _).trans (hb1.mono (by simp))
        clear hb1
        go_wp2_with fail
        go_ret
        exact ⟨by rw [unhide HE]; rfl, hbw⟩
    · have ha2 : (a == r) = false := by rw [beq_eq_false_iff_ne]; exact ha
      by_cases hb : b = r
      · subst hb
        have HE := hide (show rdC ⟨5, d, a, b⟩ b = 1 by rw [rdC_of, if_neg (fun h => ha h.2), if_pos ⟨by decide, rfl⟩])
        go_enter Tryd.func65, Tryd.ntmps65
        go_wp2_with fail
        refine (unhide FK _).mono ?_
        rintro _ w1 ⟨rfl, hb1⟩
        have y0 : w1.cell? ⟨w.heap.size, 0, none⟩ = some (.int .i64 5) := (hb1.cell (by simp)).trans (by rw [World.cell?_alloc_at (hn := rfl)]; rfl)
        have y1 : w1.cell? ⟨w.heap.size, 1, none⟩ = some (.int .i64 d) := (hb1.cell (by simp)).trans (by rw [World.cell?_alloc_at (hn := rfl)]; rfl)
        have y2 : w1.cell? ⟨w.heap.size, 2, none⟩ = some (.int .i64 a) := (hb1.cell (by simp)).trans (by rw [World.cell?_alloc_at (hn := rfl)]; rfl)
        have y3 : w1.cell? ⟨w.heap.size, 3, none⟩ = some (.int .i64 b) := (hb1.cell (by simp)).trans (by rw [World.cell?_alloc_at (hn := rfl)]; rfl)
        have hbw : Below w.heap.size w w1 := ((Below.refl _ _).alloc (Nat.le_refl _) _).trans (hb1.mono (by simp))
        clear hb1
        go_wp2_with fail
        go_ret
        exact ⟨by rw [unhide HE]; rfl, hbw⟩
      · have hb2 : (b == r) = false := by rw [beq_eq_false_iff_ne]; exact hb
        have HE := hide (show rdC ⟨5, d, a, b⟩ r = 0 by rw [rdC_of, if_neg (fun h => ha h.2), if_neg (fun h => hb h.2)])
        go_enter Tryd.func65, Tryd.ntmps65
        go_wp2_with fail
        refine (unhide FK _).mono ?_
        rintro _ w1 ⟨rfl, hb1⟩
        have y0 : w1.cell? ⟨w.heap.size, 0, none⟩ = some (.int .i64 5) := (hb1.cell (by simp)).trans (by rw [World.cell?_alloc_at (hn := rfl)]; rfl)
        have y1 : w1.cell? ⟨w.heap.size, 1, none⟩ = some (.int .i64 d) := (hb1.cell (by simp)).trans (by rw [World.cell?_alloc_at (hn := rfl)]; rfl)
        have y2 : w1.cell? ⟨w.heap.size, 2, none⟩ = some (.int .i64 a) := (hb1.cell (by simp)).trans (by rw [World.cell?_alloc_at (hn := rfl)]; rfl)
        have y3 : w1.cell? ⟨w.heap.size, 3, none⟩ = some (.int .i64 b) := (hb1.cell (by simp)).trans (by rw [World.cell?_alloc_at (hn := rfl)]; rfl)
        have hbw : Below w.heap.size w w1 := ((Below.refl _ _).alloc (Nat.le_refl _) _).trans (hb1.mono (by simp))
        clear hb1
        go_wp2_with fail
        go_ret
        exact ⟨by rw [unhide HE]; rfl, hbw⟩
  · have FK := hide (fun w => form_any 6 (by decide) w)
    rw [show formS 6 = ⟨#[114, 114, 114]⟩ from rfl, show ((6 : Nat) : Int) = 6 from rfl] at FK
    by_cases ha : a = r
    · subst ha
      by_cases hb : b = a
      · subst hb
        have HE := hide (show rdC ⟨6, d, b, b⟩ b = 2 by rw [rdC_of, if_pos ⟨by decide, rfl⟩, if_pos ⟨by decide, rfl⟩])
        go_enter Tryd.func65, Tryd.ntmps65
        go_wp2_with fail
        refine (unhide FK _).mono ?_
        rintro _ w1 ⟨rfl, hb1⟩
        have y0 : w1.cell? ⟨w.heap.size, 0, none⟩ = some (.int .i64 6) := (hb1.cell (by simp)).trans (by rw [World.cell?_alloc_at (hn := rfl)]; rfl)
        have y1 : w1.cell? ⟨w.heap.size, 1, none⟩ = some (.int .i64 d) := (hb1.cell (by simp)).trans (by rw [World.cell?_alloc_at (hn := rfl)]; rfl)
        have y2 : w1.cell? ⟨w.heap.size, 2, none⟩ = some (.int .i64 b) := (hb1.cell (by simp)).trans (by rw [World.cell?_alloc_at (hn := rfl)]; rfl)
        have y3 : w1.cell? ⟨w.heap.size, 3, none⟩ = some (.int .i64 b) := (hb1.cell (by simp)).trans (by rw [World.cell?_alloc_at (hn := rfl)]; rfl)
        have hbw : Below w.heap.size w w1 := ((Below.refl _ _).alloc (Nat.le_refl _) _).trans (hb1.mono (by simp))
        clear hb1
        go_wp2_with fail
        go_ret
        exact ⟨by rw [unhide HE]; rfl, hbw⟩
      · have hb2 : (b == a) = false := by rw [beq_eq_false_iff_ne]; exact hb
        have HE := hide (show rdC ⟨6, d, a, b⟩ a = 1 by rw [rdC_of, if_pos ⟨by decide, rfl⟩, if_neg (fun h => hb h.2)])
        go_enter Tryd.func65, Tryd.ntmps65
        go_wp2_with fail
        refine (unhide FK _).mono ?_
        rintro _ w1 ⟨rfl, hb1⟩
        have y0 : w1.cell? ⟨w.heap.size, 0, none⟩ = some (.int .i64 6) := (hb1.cell (by simp)).trans (by rw [World.cell?_alloc_at (hn := rfl)]; rfl)
        have y1 : w1.cell? ⟨w.heap.size, 1, none⟩ = some (.int .i64 d) := (hb1.cell (by simp)).trans (by rw [World.cell?_alloc_at (hn := rfl)]; rfl)
        have y2 : w1.cell? ⟨w.heap.size, 2, none⟩ = some (.int .i64 a) := (hb1.cell (by simp)).trans (by rw [World.cell?_alloc_at (hn := rfl)]; rfl)
        have y3 : w1.cell? ⟨w.heap.size, 3, none⟩ = some (.int .i64 b) := (hb1.cell (by simp)).trans (by rw [World.cell?_alloc_at (hn := rfl)]; rfl)
        have hbw : Below w.heap.size w w1 := ((Below.refl _ _).alloc (Nat.le_refl _) _).trans (hb1.mono (by simp))
        clear hb1
        go_wp2_with fail
        go_ret
        exact ⟨by rw [unhide HE]; rfl, hbw⟩
    · have ha2 : (a == r) = false := by rw [beq_eq_false_iff_ne]; exact ha
      by_cases hb : b = r
      · subst hb
        have HE := hide (show rdC ⟨6, d, a, b⟩ b = 1 by rw [rdC_of, if_neg (fun h => ha h.2), if_pos ⟨by decide, rfl⟩])
        go_enter Tryd.func65, Tryd.ntmps65
        go_wp2_with fail
        refine (unhide FK _).mono ?_
        rintro _ w1 ⟨rfl, hb1⟩
        have y0 : w1.cell? ⟨w.heap.size, 0, none⟩ = some (.int .i64 6) := (hb1.cell (by simp)).trans (by rw [World.cell?_alloc_at (hn := rfl)]; rfl)
        have y1 : w1.cell? ⟨w.heap.size, 1, none⟩ = some (.int .i64 d) := (hb1.cell (by simp)).trans (by rw [World.cell?_alloc_at (hn := rfl)]; rfl)
        have y2 : w1.cell? ⟨w.heap.size, 2, none⟩ = some (.int .i64 a) := (hb1.cell (by simp)).trans (by rw [World.cell?_alloc_at (hn := rfl)]; rfl)
        have y3 : w1.cell? ⟨w.heap.size, 3, none⟩ = some (.int .i64 b) := (hb1.cell (by simp)).trans (by rw [World.cell?_alloc_at (hn := rfl)]; rfl)
        have hbw : Below w.heap.size w w1 := ((Below.refl _ _).alloc (Nat.le_refl _) _).trans (hb1.mono (by simp))
        clear hb1
        go_wp2_with fail
        go_ret
        exact ⟨by rw [unhide HE]; rfl, hbw⟩
      · have hb2 : (b == r) = false := by rw [beq_eq_false_iff_ne]; exact hb
        have HE := hide (show rdC ⟨6, d, a, b⟩ r = 0 by rw [rdC_of, if_neg (fun h => ha h.2), if_neg (fun h => hb h.2)])
        go_enter Tryd.func65, Tryd.ntmps65
        go_wp2_with fail
        refine (unhide FK _).mono ?_
        rintro _ w1 ⟨rfl, hb1⟩
        have y0 : w1.cell? ⟨w.heap.size, 0, none⟩ = some (.int .i64 6) := (hb1.cell (by simp)).trans (by rw [World.cell?_alloc_at (hn := rfl)]; rfl)
        have y1 : w1.cell? ⟨w.heap.size, 1, none⟩ = some (.int .i64 d) := (hb1.cell (by simp)).trans (by rw [World.cell?_alloc_at (hn := rfl)]; rfl)
        have y2 : w1.cell? ⟨w.heap.size, 2, none⟩ = some (.int .i64 a) := (hb1.cell (by simp)).trans (by rw [World.cell?_alloc_at (hn := rfl)]; rfl)
        have y3 : w1.cell? ⟨w.heap.size, 3, none⟩ = some (.int .i64 b) := (hb1.cell (by simp)).trans (by rw [World.cell?_alloc_at (hn := rfl)]; rfl)
        have hbw : Below w.heap.size w w1 := ((Below.refl _ _).alloc (Nat.le_refl _) _).trans (hb1.mono (by simp))
        clear hb1
        go_wp2_with fail
        go_ret
        exact ⟨by rw [unhide HE]; rfl, hbw⟩
  · have FK := hide (fun w => form_any 7 (by decide) w)
    rw [show formS 7 = ⟨#[45, 116, 45]⟩ from rfl, show ((7 : Nat) : Int) = 7 from rfl] at FK
    have HE := hide (show rdC ⟨7, d, a, b⟩ r = 0 by rw [rdC_of, if_neg (fun h => absurd h.1 (by decide)), if_neg (fun h => absurd h.1 (by decide))])
    go_enter Tryd.func65, Tryd.ntmps65
    go_wp2_with fail
    refine (unhide FK _).mono ?_
    rintro _ w1 ⟨rfl, hb1⟩
    have y0 : w1.cell? ⟨w.heap.size, 0, none⟩ = some (.int .i64 7) := (hb1.cell (by simp)).trans (by rw [World.cell?_alloc_at (hn := rfl)]; rfl)
    have y1 : w1.cell? ⟨w.heap.size, 1, none⟩ = some (.int .i64 d) := (hb1.cell (by simp)).trans (by rw [World.cell?_alloc_at (hn := rfl)]; rfl)
    have y2 : w1.cell? ⟨w.heap.size, 2, none⟩ = some (.int .i64 a) := (hb1.cell (by simp)).trans (by rw [World.cell?_alloc_at (hn := rfl)]; rfl)
    have y3 : w1.cell? ⟨w.heap.size, 3, none⟩ = some (.int .i64 b) := (hb1.cell (by simp)).trans (by rw [World.cell?_alloc_at (hn := rfl)]; rfl)
    have hbw : Below w.heap.size w w1 := ((Below.refl _ _).alloc (Nat.le_refl _) _).trans (hb1.mono (by simp))
    clear hb1
    go_wp2_with fail
    go_ret
    exact ⟨by rw [unhide HE]; rfl, hbw⟩
  · have FK := hide (fun w => form_any 8 (by decide) w)
    rw [show formS 8 = ⟨#[45, 114, 116]⟩ from rfl, show ((8 : Nat) : Int) = 8 from rfl] at FK
    by_cases ha : a = r
    · subst ha
      have HE := hide (show rdC ⟨8, d, a, b⟩ a = 1 by rw [rdC_of, if_pos ⟨by decide, rfl⟩, if_neg (fun h => absurd h.1 (by decide))])
      go_enter Tryd.func65, Tryd.ntmps65
      go_wp2_with fail
      refine (unhide FK _).mono ?_
      rintro _ w1 ⟨rfl, hb1⟩
      have y0 : w1.cell? ⟨w.heap.size, 0, none⟩ = some (.int .i64 8) := (hb1.cell (by simp)).trans (by rw [World.cell?_alloc_at (hn := rfl)]; rfl)
      have y1 : w1.cell? ⟨w.heap.size, 1, none⟩ = some (.int .i64 d) := (hb1.cell (by simp)).trans (by rw [World.cell?_alloc_at (hn := rfl)]; rfl)
      have y2 : w1.cell? ⟨w.heap.size, 2, none⟩ = some (.int .i64 a) := (hb1.cell (by simp)).trans (by rw [World.cell?_alloc_at (hn := rfl)]; rfl)
      have y3 : w1.cell? ⟨w.heap.size, 3, none⟩ = some (.int .i64 b) := (hb1.cell (by simp)).trans (by rw [World.cell?_alloc_at (hn := rfl)]; rfl)
      have hbw : Below w.heap.size w w1 := ((Below.refl _ _).alloc (Nat.le_refl _) _).trans (hb1.mono (by simp))
      clear hb1
      go_wp2_with fail
      go_ret
      exact ⟨by rw [unhide HE]; rfl, hbw⟩
    · have ha2 : (a == r) = false := by rw [beq_eq_false_iff_ne]; exact ha
      have HE := hide (show rdC ⟨8, d, a, b⟩ r = 0 by rw [rdC_of, if_neg (fun h => ha h.2), if_neg (fun h => absurd h.1 (by decide))])
      go_enter Tryd.func65, Tryd.ntmps65
      go_wp2_with fail
      refine (unhide FK _).mono ?_
      rintro _ w1 ⟨rfl, hb1⟩
      have y0 : w1.cell? ⟨w.heap.size, 0, none⟩ = some (.int .i64 8) := (hb1.cell (by simp)).trans (by rw [World.cell?_alloc_at (hn := rfl)]; rfl)
      have y1 : w1.cell? ⟨w.heap.size, 1, none⟩ = some (.int .i64 d) := (hb1.cell (by simp)).trans (by rw [World.cell?_alloc_at (hn := rfl)]; rfl)
      have y2 : w1.cell? ⟨w.heap.size, 2, none⟩ = some (.int .i64 a) := (hb1.cell (by simp)).trans (by rw [World.cell?_alloc_at (hn := rfl)]; rfl)
      have y3 : w1.cell? ⟨w.heap.size, 3, none⟩ = some (.int .i64 b) := (hb1.cell (by simp)).trans (by rw [World.cell?_alloc_at (hn := rfl)]; rfl)
      have hbw : Below w.heap.size w w1 := ((Below.refl _ _).alloc (Nat.le_refl _) _).trans (hb1.mono (by simp))
      clear hb1
      go_wp2_with fail
      go_ret
      exact ⟨by rw [unhide HE]; rfl, hbw⟩
  · have FK := hide (fun w => form_any 9 (by decide) w)
    rw [show formS 9 = ⟨#[45, 114, 45]⟩ from rfl, show ((9 : Nat) : Int) = 9 from rfl] at FK
    by_cases ha : a = r
    · subst ha
      have HE := hide (show rdC ⟨9, d, a, b⟩ a = 1 by rw [rdC_of, if_pos ⟨by decide, rfl⟩, if_neg (fun h => absurd h.1 (by decide))])
      go_enter Tryd.func65, Tryd.ntmps65
      go_wp2_with fail
      refine (unhide FK _).mono ?_
      rintro _ w1 ⟨rfl, hb1⟩
      have y0 : w1.cell? ⟨w.heap.size, 0, none⟩ = some (.int .i64 9) := (hb1.cell (by simp)).trans (by rw [World.cell?_alloc_at (hn := rfl)]; rfl)
      have y1 : w1.cell? ⟨w.heap.size, 1, none⟩ = some (.int .i64 d) := (hb1.cell (by simp)).trans (by rw [World.cell?_alloc_at (hn := rfl)]; rfl)
      have y2 : w1.cell? ⟨w.heap.size, 2, none⟩ = some (.int .i64 a) := (hb1.cell (by simp)).trans (by rw [World.cell?_alloc_at (hn := rfl)]; rfl)
      have y3 : w1.cell? ⟨w.heap.size, 3, none⟩ = some (.int .i64 b) := (hb1.cell (by simp)).trans (by rw [World.cell?_alloc_at (hn := rfl)]; rfl)
      have hbw : Below w.heap.size w w1 := ((Below.refl _ _).alloc (Nat.le_refl _) _).trans (hb1.mono (by simp))
      clear hb1
      go_wp2_with fail
      go_ret
      exact ⟨by rw [unhide HE]; rfl, hbw⟩
    · have ha2 : (a == r) = false := by rw [beq_eq_false_iff_ne]; exact ha
      have HE := hide (show rdC ⟨9, d, a, b⟩ r = 0 by rw [rdC_of, if_neg (fun h => ha h.2), if_neg (fun h => absurd h.1 (by decide))])
      go_enter Tryd.func65, Tryd.ntmps65
      go_wp2_with fail
      refine (unhide FK _).mono ?_
      rintro _ w1 ⟨rfl, hb1⟩
      have y0 : w1.cell? ⟨w.heap.size, 0, none⟩ = some (.int .i64 9) := (hb1.cell (by simp)).trans (by rw [World.cell?_alloc_at (hn := rfl)]; rfl)
      have y1 : w1.cell? ⟨w.heap.size, 1, none⟩ = some (.int .i64 d) := (hb1.cell (by simp)).trans (by rw [World.cell?_alloc_at (hn := rfl)]; rfl)
      have y2 : w1.cell? ⟨w.heap.size, 2, none⟩ = some (.int .i64 a) := (hb1.cell (by simp)).trans (by rw [World.cell?_alloc_at (hn := rfl)]; rfl)
      have y3 : w1.cell? ⟨w.heap.size, 3, none⟩ = some (.int .i64 b) := (hb1.cell (by simp)).trans (by rw [World.cell?_alloc_at (hn := rfl)]; rfl)
      have hbw : Below w.heap.size w w1 := ((Below.refl _ _).alloc (Nat.le_refl _) _).trans (hb1.mono (by simp))
      clear hb1
      go_wp2_with fail
      go_ret
      exact ⟨by rw [unhide HE]; rfl, hbw⟩
  · have FK := hide (fun w => form_any 10 (by decide) w)
    rw [show formS 10 = ⟨#[45, 114, 45]⟩ from rfl, show ((10 : Nat) : Int) = 10 from rfl] at FK
    by_cases ha : a = r
    · subst ha
      have HE := hide (show rdC ⟨10, d, a, b⟩ a = 1 by rw [rdC_of, if_pos ⟨by decide, rfl⟩, if_neg (fun h => absurd h.1 (by decide))])
      go_enter Tryd.func65, Tryd.ntmps65
      go_wp2_with fail
      refine (unhide FK _).mono ?_
      rintro _ w1 ⟨rfl, hb1⟩
      have y0 : w1.cell? ⟨w.heap.size, 0, none⟩ = some (.int .i64 10) := (hb1.cell (by simp)).trans (by rw [World.cell?_alloc_at (hn := rfl)]; rfl)
      have y1 : w1.cell? ⟨w.heap.size, 1, none⟩ = some (.int .i64 d) := (hb1.cell (by simp)).trans (by rw [World.cell?_alloc_at (hn := rfl)]; rfl)
      have y2 : w1.cell? ⟨w.heap.size, 2, none⟩ = some (.int .i64 a) := (hb1.cell (by simp)).trans (by rw [World.cell?_alloc_at (hn := rfl)]; rfl)
      have y3 : w1.cell? ⟨w.heap.size, 3, none⟩ = some (.int .i64 b) := (hb1.cell (by simp)).trans (by rw [World.cell?_alloc_at (hn := rfl)]; rfl)
      have hbw : Below w.heap.size w w1 := ((Below.refl _ _).alloc (Nat.le_refl _) _).trans (hb1.mono (by simp))
      clear hb1
      go_wp2_with fail
      go_ret
      exact ⟨by rw [unhide HE]; rfl, hbw⟩
    · have ha2 : (a == r) = false := by rw [beq_eq_false_iff_ne]; exact ha
      have HE := hide (show rdC ⟨10, d, a, b⟩ r = 0 by rw [rdC_of, if_neg (fun h => ha h.2), if_neg (fun h => absurd h.1 (by decide))])
      go_enter Tryd.func65, Tryd.ntmps65
      go_wp2_with fail
      refine (unhide FK _).mono ?_
      rintro _ w1 ⟨rfl, hb1⟩
      have y0 : w1.cell? ⟨w.heap.size, 0, none⟩ = some (.int .i64 10) := (hb1.cell (by simp)).trans (by rw [World.cell?_alloc_at (hn := rfl)]; rfl)
      have y1 : w1.cell? ⟨w.heap.size, 1, none⟩ = some (.int .i64 d) := (hb1.cell (by simp)).trans (by rw [World.cell?_alloc_at (hn := rfl)]; rfl)
      have y2 : w1.cell? ⟨w.heap.size, 2, none⟩ = some (.int .i64 a) := (hb1.cell (by simp)).trans (by rw [World.cell?_alloc_at (hn := rfl)]; rfl)
      have y3 : w1.cell? ⟨w.heap.size, 3, none⟩ = some (.int .i64 b) := (hb1.cell (by simp)).trans (by rw [World.cell?_alloc_at (hn := rfl)]; rfl)
      have hbw : Below w.heap.size w w1 := ((Below.refl _ _).alloc (Nat.le_refl _) _).trans (hb1.mono (by simp))
      clear hb1
      go_wp2_with fail
      go_ret
      exact ⟨by rw [unhide HE]; rfl, hbw⟩
  · have FK := hide (fun w => form_any 11 (by decide) w)
    rw [show formS 11 = ⟨#[45, 115, 45]⟩ from rfl, show ((11 : Nat) : Int) = 11 from rfl] at FK
    have HE := hide (show rdC ⟨11, d, a, b⟩ r = 0 by rw [rdC_of, if_neg (fun h => absurd h.1 (by decide)), if_neg (fun h => absurd h.1 (by decide))])
    go_enter Tryd.func65, Tryd.ntmps65
    go_wp2_with fail
    refine (unhide FK _).mono ?_
    rintro _ w1 ⟨rfl, hb1⟩
    have y0 : w1.cell? ⟨w.heap.size, 0, none⟩ = some (.int .i64 11) := (hb1.cell (by simp)).trans (by rw [World.cell?_alloc_at (hn := rfl)]; rfl)
    have y1 : w1.cell? ⟨w.heap.size, 1, none⟩ = some (.int .i64 d) := (hb1.cell (by simp)).trans (by rw [World.cell?_alloc_at (hn := rfl)]; rfl)
    have y2 : w1.cell? ⟨w.heap.size, 2, none⟩ = some (.int .i64 a) := (hb1.cell (by simp)).trans (by rw [World.cell?_alloc_at (hn := rfl)]; rfl)
    have y3 : w1.cell? ⟨w.heap.size, 3, none⟩ = some (.int .i64 b) := (hb1.cell (by simp)).trans (by rw [World.cell?_alloc_at (hn := rfl)]; rfl)
    have hbw : Below w.heap.size w w1 := ((Below.refl _ _).alloc (Nat.le_refl _) _).trans (hb1.mono (by simp))
    clear hb1
    go_wp2_with fail
    go_ret
    exact ⟨by rw [unhide HE]; rfl, hbw⟩
  · have FK := hide (fun w => form_any 12 (by decide) w)
    rw [show formS 12 = ⟨#[118, 114, 45]⟩ from rfl, show ((12 : Nat) : Int) = 12 from rfl] at FK
    have HE := hide (show rdC ⟨12, d, a, b⟩ r = 0 by rw [rdC_of, if_neg (fun h => absurd h.1 (by decide)), if_neg (fun h => absurd h.1 (by decide))])
    go_enter Tryd.func65, Tryd.ntmps65
    go_wp2_with fail
    refine (unhide FK _).mono ?_
    rintro _ w1 ⟨rfl, hb1⟩
    have y0 : w1.cell? ⟨w.heap.size, 0, none⟩ = some (.int .i64 12) := (hb1.cell (by simp)).trans (by rw [World.cell?_alloc_at (hn := rfl)]; rfl)
    have y1 : w1.cell? ⟨w.heap.size, 1, none⟩ = some (.int .i64 d) := (hb1.cell (by simp)).trans (by rw [World.cell?_alloc_at (hn := rfl)]; rfl)
    have y2 : w1.cell? ⟨w.heap.size, 2, none⟩ = some (.int .i64 a) := (hb1.cell (by simp)).trans (by rw [World.cell?_alloc_at (hn := rfl)]; rfl)
    have y3 : w1.cell? ⟨w.heap.size, 3, none⟩ = some (.int .i64 b) := (hb1.cell (by simp)).trans (by rw [World.cell?_alloc_at (hn := rfl)]; rfl)
    have hbw : Below w.heap.size w w1 := ((Below.refl _ _).alloc (Nat.le_refl _) _).trans (hb1.mono (by simp))
    clear hb1
    go_wp2_with fail
    go_ret
    exact ⟨by rw [unhide HE]; rfl, hbw⟩
  · have FK := hide (fun w => form_any 13 (by decide) w)
    rw [show formS 13 = ⟨#[118, 99, 45]⟩ from rfl, show ((13 : Nat) : Int) = 13 from rfl] at FK
    have HE := hide (show rdC ⟨13, d, a, b⟩ r = 0 by rw [rdC_of, if_neg (fun h => absurd h.1 (by decide)), if_neg (fun h => absurd h.1 (by decide))])
    go_enter Tryd.func65, Tryd.ntmps65
    go_wp2_with fail
    refine (unhide FK _).mono ?_
    rintro _ w1 ⟨rfl, hb1⟩
    have y0 : w1.cell? ⟨w.heap.size, 0, none⟩ = some (.int .i64 13) := (hb1.cell (by simp)).trans (by rw [World.cell?_alloc_at (hn := rfl)]; rfl)
    have y1 : w1.cell? ⟨w.heap.size, 1, none⟩ = some (.int .i64 d) := (hb1.cell (by simp)).trans (by rw [World.cell?_alloc_at (hn := rfl)]; rfl)
    have y2 : w1.cell? ⟨w.heap.size, 2, none⟩ = some (.int .i64 a) := (hb1.cell (by simp)).trans (by rw [World.cell?_alloc_at (hn := rfl)]; rfl)
    have y3 : w1.cell? ⟨w.heap.size, 3, none⟩ = some (.int .i64 b) := (hb1.cell (by simp)).trans (by rw [World.cell?_alloc_at (hn := rfl)]; rfl)
    have hbw : Below w.heap.size w w1 := ((Below.refl _ _).alloc (Nat.le_refl _) _).trans (hb1.mono (by simp))
    clear hb1
    go_wp2_with fail
    go_ret
    exact ⟨by rw [unhide HE]; rfl, hbw⟩
  · have FK := hide (fun w => form_any 14 (by decide) w)
    rw [show formS 14 = ⟨#[118, 45, 45]⟩ from rfl, show ((14 : Nat) : Int) = 14 from rfl] at FK
    have HE := hide (show rdC ⟨14, d, a, b⟩ r = 0 by rw [rdC_of, if_neg (fun h => absurd h.1 (by decide)), if_neg (fun h => absurd h.1 (by decide))])
    go_enter Tryd.func65, Tryd.ntmps65
    go_wp2_with fail
    refine (unhide FK _).mono ?_
    rintro _ w1 ⟨rfl, hb1⟩
    have y0 : w1.cell? ⟨w.heap.size, 0, none⟩ = some (.int .i64 14) := (hb1.cell (by simp)).trans (by rw [World.cell?_alloc_at (hn := rfl)]; rfl)
    have y1 : w1.cell? ⟨w.heap.size, 1, none⟩ = some (.int .i64 d) := (hb1.cell (by simp)).trans (by rw [World.cell?_alloc_at (hn := rfl)]; rfl)
    have y2 : w1.cell? ⟨w.heap.size, 2, none⟩ = some (.int .i64 a) := (hb1.cell (by simp)).trans (by rw [World.cell?_alloc_at (hn := rfl)]; rfl)
    have y3 : w1.cell? ⟨w.heap.size, 3, none⟩ = some (.int .i64 b) := (hb1.cell (by simp)).trans (by rw [World.cell?_alloc_at (hn := rfl)]; rfl)
    have hbw : Below w.heap.size w w1 := ((Below.refl _ _).alloc (Nat.le_refl _) _).trans (hb1.mono (by simp))
    clear hb1
    go_wp2_with fail
    go_ret
    exact ⟨by rw [unhide HE]; rfl, hbw⟩
/-- Does an instruction say something of a variable? -/
def sayB (x : In4) (v : Int) : Bool := decide (12 ≤ x.op) && decide (x.op ≤ 14) && x.d == v
set_option maxRecDepth 100000 in
set_option maxHeartbeats 4000000 in
theorem says_any (op d a b v : Int) (w : World) :
    Calls Tryd.prog 109 #[.agg #[.int .i64 op, .int .i64 d, .int .i64 a, .int .i64 b], .int .i64 v] w fun e w' => e = .returned (.bool (sayB ⟨op, d, a, b⟩ v)) ∧ Below w.heap.size w w' := by
  rcases (show op < 12 ∨ (12 ≤ op ∧ 14 < op) ∨ (12 ≤ op ∧ op ≤ 14) by omega) with h | ⟨h, h'⟩ | ⟨h, h'⟩
  · have HE := hide (show sayB ⟨op, d, a, b⟩ v = false by unfold sayB; rw [show decide (12 ≤ (⟨op, d, a, b⟩ : In4).op) = false from decide_eq_false (by show ¬ 12 ≤ op; omega)]; rfl)
    go_enter Tryd.func109, Tryd.ntmps109
    go_wp2_with fail
    go_ret
    exact ⟨ret_bool (unhide HE).symm, (Below.refl _ _).alloc (Nat.le_refl _) _⟩
  · have HE := hide (show sayB ⟨op, d, a, b⟩ v = false by unfold sayB; rw [show decide ((⟨op, d, a, b⟩ : In4).op ≤ 14) = false from decide_eq_false (by show ¬ op ≤ 14; omega), Bool.and_false]; rfl)
    go_enter Tryd.func109, Tryd.ntmps109
    go_wp2_with fail
    go_ret
    exact ⟨ret_bool (unhide HE).symm, (Below.refl _ _).alloc (Nat.le_refl _) _⟩
  · have e1 : sayB ⟨op, d, a, b⟩ v = (d == v) := by unfold sayB; rw [show decide (12 ≤ (⟨op, d, a, b⟩ : In4).op) = true from decide_eq_true h, show decide ((⟨op, d, a, b⟩ : In4).op ≤ 14) = true from decide_eq_true h']; rfl
    by_cases hd : d = v
    · have HE := hide (show sayB ⟨op, d, a, b⟩ v = true by rw [e1, beq_iff_eq]; exact hd)
      subst hd
      clear e1
      go_enter Tryd.func109, Tryd.ntmps109
      go_wp2_with fail
      go_ret
      exact ⟨ret_bool (unhide HE).symm, (Below.refl _ _).alloc (Nat.le_refl _) _⟩
    · have hd2 : (d == v) = false := by rw [beq_eq_false_iff_ne]; exact hd
      have HE := hide (show sayB ⟨op, d, a, b⟩ v = false by rw [e1, hd2])
      clear e1
      go_enter Tryd.func109, Tryd.ntmps109
      go_wp2_with fail
      go_ret
      exact ⟨ret_bool (unhide HE).symm, (Below.refl _ _).alloc (Nat.le_refl _) _⟩
end Go.Proofs.YtoepcplbpochpaaDoor
