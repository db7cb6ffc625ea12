/-
  What the document's own small functions answer: lodgeref.reads, says, nexts.
-/
import Derived.Test.YtoepcplbpochpaaDoorPiece8
import Derived.Laws.AppendOwnNone

namespace Go.Proofs.YtoepcplbpochpaaDoor
open Go.RowKit

theorem rdC_of {op d a b r : Int} : rdC ⟨op, d, a, b⟩ r = (if (op = 1 ∨ (2 ≤ op ∧ op ≤ 6) ∨ op = 8 ∨ op = 9 ∨ op = 10) ∧ a = r then 1 else 0) + (if (2 ≤ op ∧ op ≤ 6) ∧ b = r then 1 else 0) := rfl
set_option maxRecDepth 100000 in
set_option maxHeartbeats 8000000 in
theorem refReads_any (op d a b r : Int) (h : 0 ≤ op ∧ op ≤ 14) (w : World) :
    Calls Tryd.prog 65 #[.agg #[.int .i64 op, .int .i64 d, .int .i64 a, .int .i64 b], .int .i64 r] w fun e w' => e = .returned (.int .i64 (rdC ⟨op, d, a, b⟩ r : Nat)) ∧ Below w.heap.size w w' := by
  rcases (show op = 0 ∨ op = 1 ∨ op = 2 ∨ op = 3 ∨ op = 4 ∨ op = 5 ∨ op = 6 ∨ op = 7 ∨ op = 8 ∨ op = 9 ∨ op = 10 ∨ op = 11 ∨ op = 12 ∨ op = 13 ∨ op = 14 by omega) with rfl | rfl | rfl | rfl | rfl | rfl | rfl | rfl | rfl | rfl | rfl | rfl | rfl | rfl | rfl
  · have FK := hide (fun w => form_any 0 (by decide) w)
    rw [show formS 0 = ⟨#[114, 99, 45]⟩ from rfl, show ((0 : Nat) : Int) = 0 from rfl] at FK
    have HE := hide (show rdC ⟨0, d, a, b⟩ r = 0 by rw [rdC_of, if_neg (fun h => absurd h.1 (by decide)), if_neg (fun h => absurd h.1 (by decide))])
    go_enter Tryd.func65, Tryd.ntmps65
    go_wp2_with fail
    refine (unhide FK _).mono ?_
    rintro _ w1 ⟨rfl, hb1⟩
    obtain ⟨y0, y1, y2, y3, hbw⟩ := ins_boxed hb1
    clear hb1
    go_wp2_with fail
    go_ret
    exact ⟨by rw [unhide HE]; rfl, hbw⟩
  · have FK := hide (fun w => form_any 1 (by decide) w)
    rw [show formS 1 = ⟨#[114, 114, 45]⟩ from rfl, show ((1 : Nat) : Int) = 1 from rfl] at FK
    by_cases ha : a = r
    · subst ha
      have HE := hide (show rdC ⟨1, d, a, b⟩ a = 1 by rw [rdC_of, if_pos ⟨by decide, rfl⟩, if_neg (fun h => absurd h.1 (by decide))])
      go_enter Tryd.func65, Tryd.ntmps65
      go_wp2_with fail
      refine (unhide FK _).mono ?_
      rintro _ w1 ⟨rfl, hb1⟩
      obtain ⟨y0, y1, y2, y3, hbw⟩ := ins_boxed hb1
      clear hb1
      go_wp2_with fail
      go_ret
      exact ⟨by rw [unhide HE]; rfl, hbw⟩
    · have ha2 : (a == r) = false := by rw [beq_eq_false_iff_ne]; exact ha
      have HE := hide (show rdC ⟨1, d, a, b⟩ r = 0 by rw [rdC_of, if_neg (fun h => ha h.2), if_neg (fun h => absurd h.1 (by decide))])
      go_enter Tryd.func65, Tryd.ntmps65
      go_wp2_with fail
      refine (unhide FK _).mono ?_
      rintro _ w1 ⟨rfl, hb1⟩
      obtain ⟨y0, y1, y2, y3, hbw⟩ := ins_boxed hb1
      clear hb1
      go_wp2_with fail
      go_ret
      exact ⟨by rw [unhide HE]; rfl, hbw⟩
  · have FK := hide (fun w => form_any 2 (by decide) w)
    rw [show formS 2 = ⟨#[114, 114, 114]⟩ from rfl, show ((2 : Nat) : Int) = 2 from rfl] at FK
    by_cases ha : a = r
    · subst ha
      by_cases hb : b = a
      · subst hb
        have HE := hide (show rdC ⟨2, d, b, b⟩ b = 2 by rw [rdC_of, if_pos ⟨by decide, rfl⟩, if_pos ⟨by decide, rfl⟩])
        go_enter Tryd.func65, Tryd.ntmps65
        go_wp2_with fail
        refine (unhide FK _).mono ?_
        rintro _ w1 ⟨rfl, hb1⟩
        obtain ⟨y0, y1, y2, y3, hbw⟩ := ins_boxed hb1
        clear hb1
        go_wp2_with fail
        go_ret
        exact ⟨by rw [unhide HE]; rfl, hbw⟩
      · have hb2 : (b == a) = false := by rw [beq_eq_false_iff_ne]; exact hb
        have HE := hide (show rdC ⟨2, d, a, b⟩ a = 1 by rw [rdC_of, if_pos ⟨by decide, rfl⟩, if_neg (fun h => hb h.2)])
        go_enter Tryd.func65, Tryd.ntmps65
        go_wp2_with fail
        refine (unhide FK _).mono ?_
        rintro _ w1 ⟨rfl, hb1⟩
        obtain ⟨y0, y1, y2, y3, hbw⟩ := ins_boxed hb1
        clear hb1
        go_wp2_with fail
        go_ret
        exact ⟨by rw [unhide HE]; rfl, hbw⟩
    · have ha2 : (a == r) = false := by rw [beq_eq_false_iff_ne]; exact ha
      by_cases hb : b = r
      · subst hb
        have HE := hide (show rdC ⟨2, d, a, b⟩ b = 1 by rw [rdC_of, if_neg (fun h => ha h.2), if_pos ⟨by decide, rfl⟩])
        go_enter Tryd.func65, Tryd.ntmps65
        go_wp2_with fail
        refine (unhide FK _).mono ?_
        rintro _ w1 ⟨rfl, hb1⟩
        obtain ⟨y0, y1, y2, y3, hbw⟩ := ins_boxed hb1
        clear hb1
        go_wp2_with fail
        go_ret
        exact ⟨by rw [unhide HE]; rfl, hbw⟩
      · have hb2 : (b == r) = false := by rw [beq_eq_false_iff_ne]; exact hb
        have HE := hide (show rdC ⟨2, d, a, b⟩ r = 0 by rw [rdC_of, if_neg (fun h => ha h.2), if_neg (fun h => hb h.2)])
        go_enter Tryd.func65, Tryd.ntmps65
        go_wp2_with fail
        refine (unhide FK _).mono ?_
        rintro _ w1 ⟨rfl, hb1⟩
        obtain ⟨y0, y1, y2, y3, hbw⟩ := ins_boxed hb1
        clear hb1
        go_wp2_with fail
        go_ret
        exact ⟨by rw [unhide HE]; rfl, hbw⟩
  · have FK := hide (fun w => form_any 3 (by decide) w)
    rw [show formS 3 = ⟨#[114, 114, 114]⟩ from rfl, show ((3 : Nat) : Int) = 3 from rfl] at FK
    by_cases ha : a = r
    · subst ha
      by_cases hb : b = a
      · subst hb
        have HE := hide (show rdC ⟨3, d, b, b⟩ b = 2 by rw [rdC_of, if_pos ⟨by decide, rfl⟩, if_pos ⟨by decide, rfl⟩])
        go_enter Tryd.func65, Tryd.ntmps65
        go_wp2_with fail
        refine (unhide FK _).mono ?_
        rintro _ w1 ⟨rfl, hb1⟩
        obtain ⟨y0, y1, y2, y3, hbw⟩ := ins_boxed hb1
        clear hb1
        go_wp2_with fail
        go_ret
        exact ⟨by rw [unhide HE]; rfl, hbw⟩
      · have hb2 : (b == a) = false := by rw [beq_eq_false_iff_ne]; exact hb
        have HE := hide (show rdC ⟨3, d, a, b⟩ a = 1 by rw [rdC_of, if_pos ⟨by decide, rfl⟩, if_neg (fun h => hb h.2)])
        go_enter Tryd.func65, Tryd.ntmps65
        go_wp2_with fail
        refine (unhide FK _).mono ?_
        rintro _ w1 ⟨rfl, hb1⟩
        obtain ⟨y0, y1, y2, y3, hbw⟩ := ins_boxed hb1
        clear hb1
        go_wp2_with fail
        go_ret
        exact ⟨by rw [unhide HE]; rfl, hbw⟩
    · have ha2 : (a == r) = false := by rw [beq_eq_false_iff_ne]; exact ha
      by_cases hb : b = r
      · subst hb
        have HE := hide (show rdC ⟨3, d, a, b⟩ b = 1 by rw [rdC_of, if_neg (fun h => ha h.2), if_pos ⟨by decide, rfl⟩])
        go_enter Tryd.func65, Tryd.ntmps65
        go_wp2_with fail
        refine (unhide FK _).mono ?_
        rintro _ w1 ⟨rfl, hb1⟩
        obtain ⟨y0, y1, y2, y3, hbw⟩ := ins_boxed hb1
        clear hb1
        go_wp2_with fail
        go_ret
        exact ⟨by rw [unhide HE]; rfl, hbw⟩
      · have hb2 : (b == r) = false := by rw [beq_eq_false_iff_ne]; exact hb
        have HE := hide (show rdC ⟨3, d, a, b⟩ r = 0 by rw [rdC_of, if_neg (fun h => ha h.2), if_neg (fun h => hb h.2)])
        go_enter Tryd.func65, Tryd.ntmps65
        go_wp2_with fail
        refine (unhide FK _).mono ?_
        rintro _ w1 ⟨rfl, hb1⟩
        obtain ⟨y0, y1, y2, y3, hbw⟩ := ins_boxed hb1
        clear hb1
        go_wp2_with fail
        go_ret
        exact ⟨by rw [unhide HE]; rfl, hbw⟩
  · have FK := hide (fun w => form_any 4 (by decide) w)
    rw [show formS 4 = ⟨#[114, 114, 114]⟩ from rfl, show ((4 : Nat) : Int) = 4 from rfl] at FK
    by_cases ha : a = r
    · subst ha
      by_cases hb : b = a
      · subst hb
        have HE := hide (show rdC ⟨4, d, b, b⟩ b = 2 by rw [rdC_of, if_pos ⟨by decide, rfl⟩, if_pos ⟨by decide, rfl⟩])
        go_enter Tryd.func65, Tryd.ntmps65
        go_wp2_with fail
        refine (unhide FK _).mono ?_
        rintro _ w1 ⟨rfl, hb1⟩
        obtain ⟨y0, y1, y2, y3, hbw⟩ := ins_boxed hb1
        clear hb1
        go_wp2_with fail
        go_ret
        exact ⟨by rw [unhide HE]; rfl, hbw⟩
      · have hb2 : (b == a) = false := by rw [beq_eq_false_iff_ne]; exact hb
        have HE := hide (show rdC ⟨4, d, a, b⟩ a = 1 by rw [rdC_of, if_pos ⟨by decide, rfl⟩, if_neg (fun h => hb h.2)])
        go_enter Tryd.func65, Tryd.ntmps65
        go_wp2_with fail
        refine (unhide FK _).mono ?_
        rintro _ w1 ⟨rfl, hb1⟩
        obtain ⟨y0, y1, y2, y3, hbw⟩ := ins_boxed hb1
        clear hb1
        go_wp2_with fail
        go_ret
        exact ⟨by rw [unhide HE]; rfl, hbw⟩
    · have ha2 : (a == r) = false := by rw [beq_eq_false_iff_ne]; exact ha
      by_cases hb : b = r
      · subst hb
        have HE := hide (show rdC ⟨4, d, a, b⟩ b = 1 by rw [rdC_of, if_neg (fun h => ha h.2), if_pos ⟨by decide, rfl⟩])
        go_enter Tryd.func65, Tryd.ntmps65
        go_wp2_with fail
        refine (unhide FK _).mono ?_
        rintro _ w1 ⟨rfl, hb1⟩
        obtain ⟨y0, y1, y2, y3, hbw⟩ := ins_boxed hb1
        clear hb1
        go_wp2_with fail
        go_ret
        exact ⟨by rw [unhide HE]; rfl, hbw⟩
      · have hb2 : (b == r) = false := by rw [beq_eq_false_iff_ne]; exact hb
        have HE := hide (show rdC ⟨4, d, a, b⟩ r = 0 by rw [rdC_of, if_neg (fun h => ha h.2), if_neg (fun h => hb h.2)])
        go_enter Tryd.func65, Tryd.ntmps65
        go_wp2_with fail
        refine (unhide FK _).mono ?_
        rintro _ w1 ⟨rfl, hb1⟩
        obtain ⟨y0, y1, y2, y3, hbw⟩ := ins_boxed hb1
        clear hb1
        go_wp2_with fail
        go_ret
        exact ⟨by rw [unhide HE]; rfl, hbw⟩
  · have FK := hide (fun w => form_any 5 (by decide) w)
    rw [show formS 5 = ⟨#[114, 114, 114]⟩ from rfl, show ((5 : Nat) : Int) = 5 from rfl] at FK
    by_cases ha : a = r
    · subst ha
      by_cases hb : b = a
      · subst hb
        have HE := hide (show rdC ⟨5, d, b, b⟩ b = 2 by rw [rdC_of, if_pos ⟨by decide, rfl⟩, if_pos ⟨by decide, rfl⟩])
        go_enter Tryd.func65, Tryd.ntmps65
        go_wp2_with fail
        refine (unhide FK _).mono ?_
        rintro _ w1 ⟨rfl, hb1⟩
        obtain ⟨y0, y1, y2, y3, hbw⟩ := ins_boxed hb1
        clear hb1
        go_wp2_with fail
        go_ret
        exact ⟨by rw [unhide HE]; rfl, hbw⟩
      · have hb2 : (b == a) = false := by rw [beq_eq_false_iff_ne]; exact hb
        have HE := hide (show rdC ⟨5, d, a, b⟩ a = 1 by rw [rdC_of, if_pos ⟨by decide, rfl⟩, if_neg (fun h => hb h.2)])
        go_enter Tryd.func65, Tryd.ntmps65
        go_wp2_with fail
        refine (unhide FK _).mono ?_
        rintro _ w1 ⟨rfl, hb1⟩
        obtain ⟨y0, y1, y2, y3, hbw⟩ := ins_boxed hb1
        clear hb1
        go_wp2_with fail
        go_ret
        exact ⟨by rw [unhide HE]; rfl, hbw⟩
    · have ha2 : (a == r) = false := by rw [beq_eq_false_iff_ne]; exact ha
      by_cases hb : b = r
      · subst hb
        have HE := hide (show rdC ⟨5, d, a, b⟩ b = 1 by rw [rdC_of, if_neg (fun h => ha h.2), if_pos ⟨by decide, rfl⟩])
        go_enter Tryd.func65, Tryd.ntmps65
        go_wp2_with fail
        refine (unhide FK _).mono ?_
        rintro _ w1 ⟨rfl, hb1⟩
        obtain ⟨y0, y1, y2, y3, hbw⟩ := ins_boxed hb1
        clear hb1
        go_wp2_with fail
        go_ret
        exact ⟨by rw [unhide HE]; rfl, hbw⟩
      · have hb2 : (b == r) = false := by rw [beq_eq_false_iff_ne]; exact hb
        have HE := hide (show rdC ⟨5, d, a, b⟩ r = 0 by rw [rdC_of, if_neg (fun h => ha h.2), if_neg (fun h => hb h.2)])
        go_enter Tryd.func65, Tryd.ntmps65
        go_wp2_with fail
        refine (unhide FK _).mono ?_
        rintro _ w1 ⟨rfl, hb1⟩
        obtain ⟨y0, y1, y2, y3, hbw⟩ := ins_boxed hb1
        clear hb1
        go_wp2_with fail
        go_ret
        exact ⟨by rw [unhide HE]; rfl, hbw⟩
  · have FK := hide (fun w => form_any 6 (by decide) w)
    rw [show formS 6 = ⟨#[114, 114, 114]⟩ from rfl, show ((6 : Nat) : Int) = 6 from rfl] at FK
    by_cases ha : a = r
    · subst ha
      by_cases hb : b = a
      · subst hb
        have HE := hide (show rdC ⟨6, d, b, b⟩ b = 2 by rw [rdC_of, if_pos ⟨by decide, rfl⟩, if_pos ⟨by decide, rfl⟩])
        go_enter Tryd.func65, Tryd.ntmps65
        go_wp2_with fail
        refine (unhide FK _).mono ?_
        rintro _ w1 ⟨rfl, hb1⟩
        obtain ⟨y0, y1, y2, y3, hbw⟩ := ins_boxed hb1
        clear hb1
        go_wp2_with fail
        go_ret
        exact ⟨by rw [unhide HE]; rfl, hbw⟩
      · have hb2 : (b == a) = false := by rw [beq_eq_false_iff_ne]; exact hb
        have HE := hide (show rdC ⟨6, d, a, b⟩ a = 1 by rw [rdC_of, if_pos ⟨by decide, rfl⟩, if_neg (fun h => hb h.2)])
        go_enter Tryd.func65, Tryd.ntmps65
        go_wp2_with fail
        refine (unhide FK _).mono ?_
        rintro _ w1 ⟨rfl, hb1⟩
        obtain ⟨y0, y1, y2, y3, hbw⟩ := ins_boxed hb1
        clear hb1
        go_wp2_with fail
        go_ret
        exact ⟨by rw [unhide HE]; rfl, hbw⟩
    · have ha2 : (a == r) = false := by rw [beq_eq_false_iff_ne]; exact ha
      by_cases hb : b = r
      · subst hb
        have HE := hide (show rdC ⟨6, d, a, b⟩ b = 1 by rw [rdC_of, if_neg (fun h => ha h.2), if_pos ⟨by decide, rfl⟩])
        go_enter Tryd.func65, Tryd.ntmps65
        go_wp2_with fail
        refine (unhide FK _).mono ?_
        rintro _ w1 ⟨rfl, hb1⟩
        obtain ⟨y0, y1, y2, y3, hbw⟩ := ins_boxed hb1
        clear hb1
        go_wp2_with fail
        go_ret
        exact ⟨by rw [unhide HE]; rfl, hbw⟩
      · have hb2 : (b == r) = false := by rw [beq_eq_false_iff_ne]; exact hb
        have HE := hide (show rdC ⟨6, d, a, b⟩ r = 0 by rw [rdC_of, if_neg (fun h => ha h.2), if_neg (fun h => hb h.2)])
        go_enter Tryd.func65, Tryd.ntmps65
        go_wp2_with fail
        refine (unhide FK _).mono ?_
        rintro _ w1 ⟨rfl, hb1⟩
        obtain ⟨y0, y1, y2, y3, hbw⟩ := ins_boxed hb1
        clear hb1
        go_wp2_with fail
        go_ret
        exact ⟨by rw [unhide HE]; rfl, hbw⟩
  · have FK := hide (fun w => form_any 7 (by decide) w)
    rw [show formS 7 = ⟨#[45, 116, 45]⟩ from rfl, show ((7 : Nat) : Int) = 7 from rfl] at FK
    have HE := hide (show rdC ⟨7, d, a, b⟩ r = 0 by rw [rdC_of, if_neg (fun h => absurd h.1 (by decide)), if_neg (fun h => absurd h.1 (by decide))])
    go_enter Tryd.func65, Tryd.ntmps65
    go_wp2_with fail
    refine (unhide FK _).mono ?_
    rintro _ w1 ⟨rfl, hb1⟩
    obtain ⟨y0, y1, y2, y3, hbw⟩ := ins_boxed hb1
    clear hb1
    go_wp2_with fail
    go_ret
    exact ⟨by rw [unhide HE]; rfl, hbw⟩
  · have FK := hide (fun w => form_any 8 (by decide) w)
    rw [show formS 8 = ⟨#[45, 114, 116]⟩ from rfl, show ((8 : Nat) : Int) = 8 from rfl] at FK
    by_cases ha : a = r
    · subst ha
      have HE := hide (show rdC ⟨8, d, a, b⟩ a = 1 by rw [rdC_of, if_pos ⟨by decide, rfl⟩, if_neg (fun h => absurd h.1 (by decide))])
      go_enter Tryd.func65, Tryd.ntmps65
      go_wp2_with fail
      refine (unhide FK _).mono ?_
      rintro _ w1 ⟨rfl, hb1⟩
      obtain ⟨y0, y1, y2, y3, hbw⟩ := ins_boxed hb1
      clear hb1
      go_wp2_with fail
      go_ret
      exact ⟨by rw [unhide HE]; rfl, hbw⟩
    · have ha2 : (a == r) = false := by rw [beq_eq_false_iff_ne]; exact ha
      have HE := hide (show rdC ⟨8, d, a, b⟩ r = 0 by rw [rdC_of, if_neg (fun h => ha h.2), if_neg (fun h => absurd h.1 (by decide))])
      go_enter Tryd.func65, Tryd.ntmps65
      go_wp2_with fail
      refine (unhide FK _).mono ?_
      rintro _ w1 ⟨rfl, hb1⟩
      obtain ⟨y0, y1, y2, y3, hbw⟩ := ins_boxed hb1
      clear hb1
      go_wp2_with fail
      go_ret
      exact ⟨by rw [unhide HE]; rfl, hbw⟩
  · have FK := hide (fun w => form_any 9 (by decide) w)
    rw [show formS 9 = ⟨#[45, 114, 45]⟩ from rfl, show ((9 : Nat) : Int) = 9 from rfl] at FK
    by_cases ha : a = r
    · subst ha
      have HE := hide (show rdC ⟨9, d, a, b⟩ a = 1 by rw [rdC_of, if_pos ⟨by decide, rfl⟩, if_neg (fun h => absurd h.1 (by decide))])
      go_enter Tryd.func65, Tryd.ntmps65
      go_wp2_with fail
      refine (unhide FK _).mono ?_
      rintro _ w1 ⟨rfl, hb1⟩
      obtain ⟨y0, y1, y2, y3, hbw⟩ := ins_boxed hb1
      clear hb1
      go_wp2_with fail
      go_ret
      exact ⟨by rw [unhide HE]; rfl, hbw⟩
    · have ha2 : (a == r) = false := by rw [beq_eq_false_iff_ne]; exact ha
      have HE := hide (show rdC ⟨9, d, a, b⟩ r = 0 by rw [rdC_of, if_neg (fun h => ha h.2), if_neg (fun h => absurd h.1 (by decide))])
      go_enter Tryd.func65, Tryd.ntmps65
      go_wp2_with fail
      refine (unhide FK _).mono ?_
      rintro _ w1 ⟨rfl, hb1⟩
      obtain ⟨y0, y1, y2, y3, hbw⟩ := ins_boxed hb1
      clear hb1
      go_wp2_with fail
      go_ret
      exact ⟨by rw [unhide HE]; rfl, hbw⟩
  · have FK := hide (fun w => form_any 10 (by decide) w)
    rw [show formS 10 = ⟨#[45, 114, 45]⟩ from rfl, show ((10 : Nat) : Int) = 10 from rfl] at FK
    by_cases ha : a = r
    · subst ha
      have HE := hide (show rdC ⟨10, d, a, b⟩ a = 1 by rw [rdC_of, if_pos ⟨by decide, rfl⟩, if_neg (fun h => absurd h.1 (by decide))])
      go_enter Tryd.func65, Tryd.ntmps65
      go_wp2_with fail
      refine (unhide FK _).mono ?_
      rintro _ w1 ⟨rfl, hb1⟩
      obtain ⟨y0, y1, y2, y3, hbw⟩ := ins_boxed hb1
      clear hb1
      go_wp2_with fail
      go_ret
      exact ⟨by rw [unhide HE]; rfl, hbw⟩
    · have ha2 : (a == r) = false := by rw [beq_eq_false_iff_ne]; exact ha
      have HE := hide (show rdC ⟨10, d, a, b⟩ r = 0 by rw [rdC_of, if_neg (fun h => ha h.2), if_neg (fun h => absurd h.1 (by decide))])
      go_enter Tryd.func65, Tryd.ntmps65
      go_wp2_with fail
      refine (unhide FK _).mono ?_
      rintro _ w1 ⟨rfl, hb1⟩
      obtain ⟨y0, y1, y2, y3, hbw⟩ := ins_boxed hb1
      clear hb1
      go_wp2_with fail
      go_ret
      exact ⟨by rw [unhide HE]; rfl, hbw⟩
  · have FK := hide (fun w => form_any 11 (by decide) w)
    rw [show formS 11 = ⟨#[45, 115, 45]⟩ from rfl, show ((11 : Nat) : Int) = 11 from rfl] at FK
    have HE := hide (show rdC ⟨11, d, a, b⟩ r = 0 by rw [rdC_of, if_neg (fun h => absurd h.1 (by decide)), if_neg (fun h => absurd h.1 (by decide))])
    go_enter Tryd.func65, Tryd.ntmps65
    go_wp2_with fail
    refine (unhide FK _).mono ?_
    rintro _ w1 ⟨rfl, hb1⟩
    obtain ⟨y0, y1, y2, y3, hbw⟩ := ins_boxed hb1
    clear hb1
    go_wp2_with fail
    go_ret
    exact ⟨by rw [unhide HE]; rfl, hbw⟩
  · have FK := hide (fun w => form_any 12 (by decide) w)
    rw [show formS 12 = ⟨#[118, 114, 45]⟩ from rfl, show ((12 : Nat) : Int) = 12 from rfl] at FK
    have HE := hide (show rdC ⟨12, d, a, b⟩ r = 0 by rw [rdC_of, if_neg (fun h => absurd h.1 (by decide)), if_neg (fun h => absurd h.1 (by decide))])
    go_enter Tryd.func65, Tryd.ntmps65
    go_wp2_with fail
    refine (unhide FK _).mono ?_
    rintro _ w1 ⟨rfl, hb1⟩
    obtain ⟨y0, y1, y2, y3, hbw⟩ := ins_boxed hb1
    clear hb1
    go_wp2_with fail
    go_ret
    exact ⟨by rw [unhide HE]; rfl, hbw⟩
  · have FK := hide (fun w => form_any 13 (by decide) w)
    rw [show formS 13 = ⟨#[118, 99, 45]⟩ from rfl, show ((13 : Nat) : Int) = 13 from rfl] at FK
    have HE := hide (show rdC ⟨13, d, a, b⟩ r = 0 by rw [rdC_of, if_neg (fun h => absurd h.1 (by decide)), if_neg (fun h => absurd h.1 (by decide))])
    go_enter Tryd.func65, Tryd.ntmps65
    go_wp2_with fail
    refine (unhide FK _).mono ?_
    rintro _ w1 ⟨rfl, hb1⟩
    obtain ⟨y0, y1, y2, y3, hbw⟩ := ins_boxed hb1
    clear hb1
    go_wp2_with fail
    go_ret
    exact ⟨by rw [unhide HE]; rfl, hbw⟩
  · have FK := hide (fun w => form_any 14 (by decide) w)
    rw [show formS 14 = ⟨#[118, 45, 45]⟩ from rfl, show ((14 : Nat) : Int) = 14 from rfl] at FK
    have HE := hide (show rdC ⟨14, d, a, b⟩ r = 0 by rw [rdC_of, if_neg (fun h => absurd h.1 (by decide)), if_neg (fun h => absurd h.1 (by decide))])
    go_enter Tryd.func65, Tryd.ntmps65
    go_wp2_with fail
    refine (unhide FK _).mono ?_
    rintro _ w1 ⟨rfl, hb1⟩
    obtain ⟨y0, y1, y2, y3, hbw⟩ := ins_boxed hb1
    clear hb1
    go_wp2_with fail
    go_ret
    exact ⟨by rw [unhide HE]; rfl, hbw⟩
/-- Does an instruction say something of a variable? -/
def sayB (x : In4) (v : Int) : Bool := decide (12 ≤ x.op) && decide (x.op ≤ 14) && x.d == v
set_option maxRecDepth 100000 in
set_option maxHeartbeats 4000000 in
theorem says_any (op d a b v : Int) (w : World) :
    Calls Tryd.prog 109 #[.agg #[.int .i64 op, .int .i64 d, .int .i64 a, .int .i64 b], .int .i64 v] w fun e w' => e = .returned (.bool (sayB ⟨op, d, a, b⟩ v)) ∧ Below w.heap.size w w' := by
  rcases (show op < 12 ∨ (12 ≤ op ∧ 14 < op) ∨ (12 ≤ op ∧ op ≤ 14) by omega) with h | ⟨h, h'⟩ | ⟨h, h'⟩
  · have HE := hide (show sayB ⟨op, d, a, b⟩ v = false by unfold sayB; rw [show decide (12 ≤ (⟨op, d, a, b⟩ : In4).op) = false from decide_eq_false (by show ¬ 12 ≤ op; omega)]; rfl)
    go_enter Tryd.func109, Tryd.ntmps109
    go_wp2_with fail
    go_ret
    exact ⟨ret_bool (unhide HE).symm, (Below.refl _ _).alloc (Nat.le_refl _) _⟩
  · have HE := hide (show sayB ⟨op, d, a, b⟩ v = false by unfold sayB; rw [show decide ((⟨op, d, a, b⟩ : In4).op ≤ 14) = false from decide_eq_false (by show ¬ op ≤ 14; omega), Bool.and_false]; rfl)
    go_enter Tryd.func109, Tryd.ntmps109
    go_wp2_with fail
    go_ret
    exact ⟨ret_bool (unhide HE).symm, (Below.refl _ _).alloc (Nat.le_refl _) _⟩
  · have e1 : sayB ⟨op, d, a, b⟩ v = (d == v) := by unfold sayB; rw [show decide (12 ≤ (⟨op, d, a, b⟩ : In4).op) = true from decide_eq_true h, show decide ((⟨op, d, a, b⟩ : In4).op ≤ 14) = true from decide_eq_true h']; rfl
    by_cases hd : d = v
    · have HE := hide (show sayB ⟨op, d, a, b⟩ v = true by rw [e1, beq_iff_eq]; exact hd)
      subst hd
      clear e1
      go_enter Tryd.func109, Tryd.ntmps109
      go_wp2_with fail
      go_ret
      exact ⟨ret_bool (unhide HE).symm, (Below.refl _ _).alloc (Nat.le_refl _) _⟩
    · have hd2 : (d == v) = false := by rw [beq_eq_false_iff_ne]; exact hd
      have HE := hide (show sayB ⟨op, d, a, b⟩ v = false by rw [e1, hd2])
      clear e1
      go_enter Tryd.func109, Tryd.ntmps109
      go_wp2_with fail
      go_ret
      exact ⟨ret_bool (unhide HE).symm, (Below.refl _ _).alloc (Nat.le_refl _) _⟩
end Go.Proofs.YtoepcplbpochpaaDoor

/-
  What the document's own search for a live register keeps to, in memory.
-/
namespace Go.Proofs.YtoepcplbpochpaaDoor
open Go.RowKit

theorem newC_low {been : Nat → Bool} : ∀ n, newC been n ≤ n
  | 0 => Nat.le_refl _
  | n + 1 => by
    have := newC_low (been := been) n
    unfold newC
    split <;> omega
/-- How long a list is. -/
def slLen : Value → Nat
  | .slice _ n _ => n
  | _ => 0
/-- The list of what is still to be looked at, the row of the places that it has been at, the program, all in memory. -/
structure SeekB (w wr : World) (P R V : Int) (sl : Value) (n : Nat) (been : Nat → Bool) (todo : List Int) (v : Value) : Prop where
  own : wr.ownsRow (w.heap.size + 2) 3 1 v todo.length (intCells todo)
  row : Rowd wr (w.heap.size + 1) 4 n (fun k => .bool (been k))
  p : ProgB wr w.heap.size P R V sl
  bel : Below w.heap.size w wr
  few : 2 * newC been n + todo.length ≤ 2 * n + 1
theorem SeekB.big {w wr : World} {P R V : Int} {sl : Value} {n : Nat} {been : Nat → Bool} {todo : List Int} {v : Value} (h : SeekB w wr P R V sl n been todo v) : w.heap.size + 2 ≤ wr.heap.size := h.row.lt
theorem SeekB.below {w wr w' : World} {P R V : Int} {sl : Value} {n : Nat} {been : Nat → Bool} {todo : List Int} {v : Value} (h : SeekB w wr P R V sl n been todo v) (hb : Below wr.heap.size wr w') : SeekB w w' P R V sl n been todo v :=
  ⟨own_keep h.own (Keep.of_below hb (fun _ => False)) (fun _ _ h => h), h.row.below hb, h.p.below hb, h.bel.trans (hb.mono h.bel.size), h.few⟩
theorem SeekB.measure {w wr : World} {P R V : Int} {sl : Value} {n : Nat} {been : Nat → Bool} {todo : List Int} {v : Value} (h : SeekB w wr P R V sl n been todo v) : 2 * newC (beenW wr (w.heap.size + 1)) n + slLen v = 2 * newC been n + todo.length := by
  rw [newC_row h.row n (Nat.le_refl _)]
  obtain ⟨ao, cap, hv, _⟩ := own_heldI h.own
  rw [hv]; rfl
/-- The last is taken off. -/
theorem SeekB.pop {w wr : World} {P R V : Int} {sl : Value} {n : Nat} {been : Nat → Bool} {t : List Int} {z : Int} {v : Value} (h : SeekB w wr P R V sl n been (t ++ [z]) v) :
    ∃ g cap, v = .slice (some ⟨g, 0, none⟩) (t.length + 1) cap ∧ t.length + 1 ≤ cap ∧ wr.cell? ⟨g, t.length, none⟩ = some (.int .i64 z) ∧ SeekB w wr P R V sl n been t (.slice (some ⟨g, 0, none⟩) t.length cap) := by
  obtain ⟨g, cap, hv, _, _, hc, hz, ho⟩ := todo_last h.own
  have hf := h.few
  rw [List.length_append] at hf
  exact ⟨g, cap, hv, hc, hz, ho, h.row, h.p, h.bel, by omega⟩
/-- It has been at one place more. -/
theorem SeekB.at {w wr : World} {P R V : Int} {sl : Value} {n : Nat} {been : Nat → Bool} {t : List Int} {v : Value} (h : SeekB w wr P R V sl n been t v) (j : Nat) : SeekB w (wr.setCell ⟨w.heap.size + 1, j, none⟩ (.bool true)) P R V sl n (fun k => k == j || been k) t v := by
  have hk : Keep (fun k => k = w.heap.size + 1) wr (wr.setCell ⟨w.heap.size + 1, j, none⟩ (.bool true)) := keep_set (Keep.refl _ _) _ _
  refine ⟨own_keep h.own hk (fun k hk e => by have := (own_in h.own k hk).1; omega), been_set h.row, h.p.keep hk (by omega), h.bel.trans (hk.below h.bel.size (fun k hk e => by omega)), ?_⟩
  have := newC_le (been := been) (j := j) n
  have := h.few
  omega
/-- What an append leaves. -/
theorem SeekB.more {w wr w2 : World} {P R V : Int} {sl : Value} {n : Nat} {been : Nat → Bool} {t xs : List Int} {v v' : Value} (h : SeekB w wr P R V sl n been t v) (ho : w2.ownsRow (w.heap.size + 2) 3 1 v' (t.length + xs.length) (intCells t ++ intCells xs)) (hg : wr.grownBy w2 v.ownBlock) (hf : 2 * newC been n + t.length + xs.length ≤ 2 * n + 1) : SeekB w w2 P R V sl n been (t ++ xs) v' := by
  have hb : ∀ k, k < w.heap.size + 2 → w2.heap[k]? = wr.heap[k]? := fun k hk => grown_block (Keep.refl (fun _ => False) wr) hg (fun e => by have := (own_in h.own k e.symm).1; omega) (by have := h.big; omega)
  refine ⟨?_, h.row.of_block (hb _ (by omega)), (hb _ (by omega)).trans h.p, h.bel.grown hg h.bel.size (fun k e => by have := (own_in h.own k e).1; omega), by rw [List.length_append]; omega⟩
  rw [List.length_append]
  unfold intCells at ho ⊢
  rw [List.map_append]
  exact ho
theorem held_cells {w : World} {ad : Addr} {xs : List Int} (h : HeldI w (some ad) xs) : ∀ j u, (intCells xs)[j]? = some u → w.cell? (ad.add j) = some u := fun j v hv => by
  have hj : j < xs.length := by
    rcases Nat.lt_or_ge j xs.length with h | h
    · exact h
    · rw [List.getElem?_eq_none (by rw [intCells_len]; exact h)] at hv; cases hv
  rcases h with h | ⟨b, off, e, _, hc⟩
  · subst h; exact absurd hj (Nat.not_lt_zero _)
  · injection e with e
    subst e
    have hadd : (⟨b, off, none⟩ : Addr).add j = ⟨b, off + j, none⟩ := by unfold Addr.add; split <;> simp_all
    rw [hadd, hc j hj]
    unfold intCells at hv
    rw [List.getElem?_map, List.getElem?_eq_getElem hj] at hv
    unfold nth
    rw [List.getD_eq_getElem?_getD, List.getElem?_eq_getElem hj]
    exact hv
theorem intCells_plain (l : List Int) : ∀ v ∈ intCells l, v.oneCell' = true := by
  intro v hv; unfold intCells at hv; obtain ⟨x, _, rfl⟩ := List.mem_map.1 hv; rfl
theorem list_last (l : List Int) : l = [] ∨ ∃ t z, l = t ++ [z] := by
  rcases List.eq_nil_or_concat l with h | ⟨t, z, h⟩
  · exact .inl h
  · exact .inr ⟨t, z, by rw [h, List.concat_eq_append]⟩
/-- All that comes next is no number below 0. -/
theorem right_nxt {P R V : Int} {L : List In4} (hp : RightP P R V L) : ∀ j, j < L.length → ∀ z ∈ nxtL (inAt L j) j, 0 ≤ z := fun j hj z hz => by
  obtain ⟨_, _, _, _, _, _, h7, h8, _⟩ := hp.ins j hj
  unfold nxtL at hz
  split at hz
  · next e => rw [List.mem_singleton.1 hz]; exact (h7 e).1
  split at hz
  · next e =>
    rcases List.mem_cons.1 hz with h | h
    · rw [h]; exact (h8 e).1
    · rw [List.mem_singleton.1 h]; omega
  split at hz
  · cases hz
  · rw [List.mem_singleton.1 hz]; omega
end Go.Proofs.YtoepcplbpochpaaDoor

/-
  Is a register live at a place: the document's own search (lodgeref.Live).
-/
namespace Go.Proofs.YtoepcplbpochpaaDoor
open Go.RowKit

theorem live_no {P R V : Int} {L : List In4} (hp : RightP P R V L) {r i : Nat} {been : Nat → Bool} (h : Seek L r i been []) : liveB L i r = false := by
  cases e : liveB L i r with
  | false => rfl
  | true => exact absurd ((live_iff (right_inside hp)).1 e) h.none
/-- The world at the head of the search. -/
theorem seek_start (w : World) (P R V : Int) (sl : Value) (n i : Nat) : ∃ w1 w2 w3, w1 = w.alloc (.cells #[.int .i64 P, .int .i64 R, .int .i64 V, sl] 24) ∧ w2 = w1.alloc (.cells (rowA n (fun _ => .bool false)) 4) ∧ w3 = w2.alloc (.cells #[.int .i64 (i : Int)] 3) ∧
    Hid (SeekB w w3 P R V sl n (fun _ => false) [(i : Int)] (.slice (some ⟨w.heap.size + 2, 0, none⟩) 1 1)) ∧ w1.heap.size = w.heap.size + 1 ∧ w2.heap.size = w.heap.size + 2 ∧ ProgB w1 w.heap.size P R V sl := by
  refine ⟨_, _, _, rfl, rfl, rfl, ?_, by simp, by simp, progb_alloc w P R V sl⟩
  have h1 := below_alloc (w.alloc (.cells #[.int .i64 P, .int .i64 R, .int .i64 V, sl] 24)) (.cells (rowA n (fun _ => .bool false)) 4)
  have h2 := below_alloc ((w.alloc (.cells #[.int .i64 P, .int .i64 R, .int .i64 V, sl] 24)).alloc (.cells (rowA n (fun _ => .bool false)) 4)) (.cells #[.int .i64 (i : Int)] 3)
  have hr : Rowd ((w.alloc (.cells #[.int .i64 P, .int .i64 R, .int .i64 V, sl] 24)).alloc (.cells (rowA n (fun _ => .bool false)) 4)) (w.heap.size + 1) 4 n (fun _ => .bool false) := at_alloc _ _ _ (by simp)
  refine ⟨?_, hr.below h2, ((progb_alloc w P R V sl).below h1).below h2, ((below_alloc _ _).alloc (by simp) _).alloc (by simp; omega) _, ?_⟩
  · have := todo_new ((w.alloc (.cells #[.int .i64 P, .int .i64 R, .int .i64 V, sl] 24)).alloc (.cells (rowA n (fun _ => .bool false)) 4)) (i : Int)
    rw [show ((w.alloc (.cells #[.int .i64 P, .int .i64 R, .int .i64 V, sl] 24)).alloc (.cells (rowA n (fun _ => .bool false)) 4)).heap.size = w.heap.size + 2 by simp] at this
    exact this
  · have := newC_low (been := fun _ => false) n
    show 2 * _ + 1 ≤ _
    omega

set_option maxRecDepth 100000 in
set_option maxHeartbeats 8000000 in
theorem live_any (P R V : Int) (L : List In4) (ao : Option Addr) (cap i r : Nat) (hp : RightP P R V L) (hi : i < L.length) (w : World) (hH : HeldIns w ao L) :
    Calls Tryd.prog 76 #[.agg #[.int .i64 P, .int .i64 R, .int .i64 V, .slice ao L.length cap], .int .i64 i, .int .i64 r] w fun e w' => e = .returned (.bool (liveB L i r)) ∧ Below w.heap.size w w' := by
  have hn40 := hp.n40
  obtain ⟨b, off, rfl, hb, hI⟩ := held_at hH hp.n1
  obtain ⟨i0, hi0, hz0, hz1', hz2'⟩ := info_parts Tryd.info3
  have HI := hide hI
  have HP := hide hp
  have HH := hide hH
  have KR := hide refReads_any
  have KW := hide refWrites_any
  have KN := hide nexts_any
  obtain ⟨w1, w2, w3, hw1, hw2, hw3, HB3, hz1, hz2, hP1⟩ := seek_start w P R V (.slice (some ⟨b, off, none⟩) L.length cap) L.length i
  have hmk := makeB L.length (by omega) w1
  rw [← hw2] at hmk
  have p3 := hP1.c3
  have HW1 := hide hw1
  have HW3 := hide hw3
  have HS0 : Hid (Seek L r i (fun _ => false) [(i : Int)]) := Seek.begin hi
  clear hI hH hp hw1 hw2 hw3 hP1
  go_enter Tryd.func76, Tryd.ntmps76
  go_upto_region 1 with fail
  rw [← unhide HW1]
  go_upto_region 3 with fail
  rw [← unhide HW3]
  clear p3 hmk HW1 HW3
  go_loopw [8] (fun v wr => ∃ been todo, Hid (Seek L r i been todo) ∧ Hid (SeekB w wr P R V (.slice (some ⟨b, off, none⟩) L.length cap) L.length been todo v)) (fun v wr => 2 * newC (beenW wr (w.heap.size + 1)) L.length + slLen v)
  case atStart => exact ⟨_, _, unhide HS0, unhide HB3⟩
  case round =>
    obtain ⟨been, todo, HS, HB⟩ := hrel
    have HM := hide (unhide HB).measure
    rcases list_last todo with rfl | ⟨t, z, rfl⟩
    · obtain ⟨ta, tc, rfl, _, _⟩ := own_heldI (unhide HB).own
      have HE := hide (live_no (unhide HP) (unhide HS))
      go_wp2_with fail
      go_ret
      exact ⟨ret_bool (unhide HE).symm, (unhide HB).bel⟩
    · obtain ⟨g, tc, rfl, hcap, hz, hB'⟩ := (unhide HB).pop
      obtain ⟨j, rfl, hj⟩ := (unhide HS).lt z (List.mem_append.2 (.inr (List.mem_singleton.2 rfl)))
      have HB1 := hide hB'
      have cb := (unhide HB).row.cell hj
      have hjl : (j : Int) < (L.length : Int) := by omega
      have hj0 : (0 : Int) ≤ (j : Int) := by omega
      have htl : t.length ≤ 100 := by have := (unhide HB1).few; omega
      obtain ⟨bj, hbj⟩ : ∃ bj, bj = been j := ⟨_, rfl⟩
      rw [← hbj] at cb
      have HBJ := hide hbj
      clear hB' hbj
      cases bj
      · have hf : ∀ o, wr.frozen? ⟨w.heap.size + 1, o, none⟩ = false := (unhide HB).row.free
        have HB4 := hide ((unhide HB1).at j)
        obtain ⟨w4, hw4⟩ : ∃ w4, w4 = wr.setCell ⟨w.heap.size + 1, j, none⟩ (.bool true) := ⟨_, rfl⟩
        rw [← hw4] at HB4
        have HW4 := hide hw4
        clear hw4
        go_upto_region 8 with fail
        rw [← unhide HW4]
        clear cb hf hz HW4
        have p3 := (unhide HB4).p.c3
        obtain ⟨q0, q1, q2, q3⟩ := ((unhide HI) j hj).below (unhide HB4).bel hb
        obtain ⟨x, hx⟩ : ∃ x, x = inAt L j := ⟨_, rfl⟩
        have hxo : 0 ≤ x.op ∧ x.op ≤ 14 := by rw [hx]; exact ⟨((unhide HP).ins j hj).1, (unhide HP).low j hj⟩
        rw [← hx] at q0 q1 q2 q3
        have HX := hide hx
        clear hx
        obtain ⟨op, d, a, b'⟩ := x
        simp only at q0 q1 q2 q3 hxo
        have KR1 := hide (unhide KR op d a b' r hxo w4)
        obtain ⟨n, hn⟩ : ∃ n, n = rdC ⟨op, d, a, b'⟩ (r : Int) := ⟨_, rfl⟩
        rw [← hn] at KR1
        have HN := hide hn
        clear hn
        go_wp2_with fail
        refine (unhide KR1).mono ?_
        rintro _ w5 ⟨rfl, hb5⟩
        have HB5 := hide ((unhide HB4).below hb5)
        clear q0 q1 q2 q3 p3 hb5 HB4 KR1
        by_cases hn0 : 0 < n
        · have hn1 : (0 : Int) < (n : Int) := by omega
          have HE := hide ((live_iff (right_inside (unhide HP))).2 ((unhide HS).yes (by rw [← unhide HX]; exact rdC_iff.1 (by rw [← unhide HN]; exact hn0))))
          go_wp2_with fail
          go_ret
          exact ⟨ret_bool (unhide HE).symm, (unhide HB5).bel⟩
        have hn1 : ¬ (0 : Int) < (n : Int) := by omega
        have HRD : Hid (rdB (inAt L j) r = false) := by
          unfold Hid
          cases e : rdB (inAt L j) r with
          | false => rfl
          | true => rw [← unhide HX] at e; have := rdC_iff.2 e; rw [← unhide HN] at this; exact absurd this hn0
        have p3 := (unhide HB5).p.c3
        obtain ⟨q0, q1, q2, q3⟩ := ((unhide HI) j hj).below (unhide HB5).bel hb
        rw [← unhide HX] at q0 q1 q2 q3
        simp only at q0 q1 q2 q3
        have KW1 := hide (unhide KW op d a b' r hxo w5)
        obtain ⟨tw, htw⟩ : ∃ t, t = wrB ⟨op, d, a, b'⟩ (r : Int) := ⟨_, rfl⟩
        rw [← htw] at KW1
        have HTW := hide htw
        clear htw hn0
        go_wp2_with fail
        refine (unhide KW1).mono ?_
        rintro _ w6 ⟨rfl, hb6⟩
        have HB6 := hide ((unhide HB5).below hb6)
        clear q0 q1 q2 q3 p3 hb6 HB5 KW1
        have HC := hide (newC_on (been := been) (j := j) (unhide HBJ).symm L.length hj)
        cases tw
        · have p0 := (unhide HB6).p.c0
          have p1 := (unhide HB6).p.c1
          have p2 := (unhide HB6).p.c2
          have p3 := (unhide HB6).p.c3
          have KN1 := hide (unhide KN P R V L (some ⟨b, off, none⟩) cap j hj hn40 w6 ((unhide HH).below (unhide HB6).bel))
          have HSN := hide ((unhide HS).on (right_inside (unhide HP)) (right_nxt (unhide HP)) (unhide HRD) (more := nxtL (inAt L j) j) (by rw [← unhide HX, ← unhide HTW, if_neg (by decide)]))
          have hl2 := nxtL_len (inAt L j) j
          obtain ⟨xs, hxs⟩ : ∃ xs, xs = nxtL (inAt L j) j := ⟨_, rfl⟩
          unfold NextPost at KN1
          rw [← hxs] at KN1 HSN hl2
          clear hxs
          go_wp2_with fail
          refine (unhide KN1).mono ?_
          rintro _ w7 ⟨so, sc, rfl, hN, hb7, hnil⟩
          have HB7 := hide ((unhide HB6).below hb7)
          have hown := (unhide HB7).own
          have hbig := (unhide HB7).big
          have htl := (unhide HB7).few
          clear p0 p1 p2 p3 hb7 HB6 KN1
          cases so with
          | none =>
            obtain ⟨rfl, rfl⟩ := hnil rfl
            go_wp2_with (at_builtin; refine wpList_append_own_none rfl _ _ 32 rfl (w.heap.size + 2) 3 i0 1 Tryd.underlying32 hi0 _ _ _ rfl hown rfl ?_)
            go_roundw
            case rel => exact ⟨_, _, by rw [List.append_nil] at HSN; exact unhide HSN, unhide HB7⟩
            case measure =>
              have h1 := (unhide HB7).measure
              have h2 := unhide HM
              have h3 := unhide HC
              rw [List.length_append, List.length_singleton] at h2
              rw [h1, h2]; omega
          | some ad =>
            have hnews := held_cells hN
            have hpl := intCells_plain xs
            go_wp2_with (at_builtin; refine wpList_append_own _ rfl _ _ 32 rfl (w.heap.size + 2) 3 i0 (.int .i64 0) 1 8 Tryd.underlying32 hi0 hz0 hz1' hz2' rfl (by decide) _ _ _ rfl hown ad xs.length sc (intCells xs) rfl (by rw [intCells_len, Nat.mul_one]) hnews hpl (by unfold maxLen; omega) (by omega) hbig ?_)
            intro v' w8 hown' hgrow _
            have hf' : 2 * newC (fun k => k == j || been k) L.length + t.length + xs.length ≤ 2 * L.length + 1 := by
              have h3 := unhide HC
              have h4 := (unhide HB).few
              rw [List.length_append, List.length_singleton] at h4
              omega
            have HB8 := hide ((unhide HB7).more hown' hgrow hf')
            clear hown' hgrow hown hnews hpl hN
            go_wp2_with fail
            go_roundw
            case rel => exact ⟨_, _, unhide HSN, unhide HB8⟩
            case measure =>
              have h1 := (unhide HB8).measure
              have h2 := unhide HM
              have h3 := unhide HC
              rw [List.length_append, List.length_singleton] at h2
              rw [List.length_append] at h1
              rw [h1, h2]; omega
        · have HSN := hide ((unhide HS).on (right_inside (unhide HP)) (right_nxt (unhide HP)) (unhide HRD) (more := []) (by rw [← unhide HX, ← unhide HTW, if_pos rfl]))
          go_wp2_with fail
          go_roundw
          case rel => exact ⟨_, _, by rw [List.append_nil] at HSN; exact unhide HSN, unhide HB6⟩
          case measure =>
            have h1 := (unhide HB6).measure
            have h2 := unhide HM
            have h3 := unhide HC
            rw [List.length_append, List.length_singleton] at h2
            rw [h1, h2]; omega
      · go_wp2_with fail
        go_roundw
        case rel => exact ⟨been, t, (unhide HS).again (unhide HBJ).symm, unhide HB1⟩
        case measure =>
          have h1 := (unhide HB1).measure
          have h2 := unhide HM
          rw [List.length_append, List.length_singleton] at h2
          rw [h1, h2]; omega
end Go.Proofs.YtoepcplbpochpaaDoor

/-
  To which places ways come: lodgeref.reached.
-/
namespace Go.Proofs.YtoepcplbpochpaaDoor
open Go.RowKit

/-- The places that it has been at, those that are still to be looked at. -/
structure Reach (L : List In4) (been : Nat → Bool) (todo : List Int) : Prop where
  lt : ∀ z ∈ todo, ∃ j : Nat, z = j ∧ j < L.length
  cl : ∀ j k, been j = true → Nx L j k → been k = true ∨ (k : Int) ∈ todo
  start : been 0 = true ∨ (0 : Int) ∈ todo
theorem Reach.begin {L : List In4} (h : 1 ≤ L.length) : Reach L (fun _ => false) [(0 : Int)] :=
  ⟨fun z hz => ⟨0, List.mem_singleton.1 hz, by omega⟩, fun j k h => (by cases h), .inr (List.mem_singleton.2 rfl)⟩
theorem Reach.again {L : List In4} {j : Nat} {been : Nat → Bool} {todo : List Int} (h : Reach L been (todo ++ [(j : Int)])) (hb : been j = true) : Reach L been todo := by
  refine ⟨fun z hz => h.lt z (List.mem_append.2 (.inl hz)), fun a k ha hn => ?_, ?_⟩
  · rcases h.cl a k ha hn with e | e
    · exact .inl e
    · rcases mem_last e with e | rfl
      · exact .inr e
      · exact .inl hb
  · rcases h.start with e | e
    · exact .inl e
    · rcases mem_last (k := 0) e with e | rfl
      · exact .inr e
      · exact .inl hb
theorem Reach.on {L : List In4} (hL : Inside L) (h0 : ∀ j, j < L.length → ∀ z ∈ nxtL (inAt L j) j, 0 ≤ z) {j : Nat} {been : Nat → Bool} {todo : List Int} (h : Reach L been (todo ++ [(j : Int)])) : Reach L (fun k => k == j || been k) (todo ++ nxtL (inAt L j) j) := by
  have hjm : (j : Int) ∈ todo ++ [(j : Int)] := List.mem_append.2 (.inr (List.mem_singleton.2 rfl))
  have hj : j < L.length := by obtain ⟨k, hk, hk'⟩ := h.lt _ hjm; omega
  have move : ∀ k : Nat, (been k = true ∨ (k : Int) ∈ todo ++ [(j : Int)]) → (k == j || been k) = true ∨ (k : Int) ∈ todo ++ nxtL (inAt L j) j := fun k hk => by
    rw [Bool.or_eq_true, beq_iff_eq]
    rcases hk with e | e
    · exact .inl (.inr e)
    · rcases mem_last e with e | e
      · exact .inr (List.mem_append.2 (.inl e))
      · exact .inl (.inl e)
  refine ⟨fun z hz => ?_, fun a k ha hn => ?_, move 0 h.start⟩
  · rcases List.mem_append.1 hz with hz | hz
    · exact h.lt z (List.mem_append.2 (.inl hz))
    · obtain ⟨k, e, hk, _⟩ := nxtL_lt hL hj hz (h0 j hj z hz)
      exact ⟨k, e, hk⟩
  · rw [Bool.or_eq_true, beq_iff_eq] at ha
    rcases ha with rfl | ha
    · exact .inr (List.mem_append.2 (.inr (nxtL_mem.2 hn)))
    · exact move k (h.cl a k ha hn)
/-- What reached leaves behind. -/
def ReachPost (w : World) (L : List In4) (e : Ending) (w' : World) : Prop :=
  ∃ on : Nat → Bool, e = .returned (.slice (some ⟨w.heap.size + 1, 0, none⟩) L.length L.length) ∧ Rowd w' (w.heap.size + 1) 4 L.length (fun k => .bool (on k)) ∧ on 0 = true ∧ (∀ j k, on j = true → Nx L j k → on k = true) ∧ Below w.heap.size w w'

set_option maxRecDepth 100000 in
set_option maxHeartbeats 8000000 in
theorem reached_any (P R V : Int) (L : List In4) (ao : Option Addr) (cap : Nat) (hp : RightP P R V L) (w : World) (hH : HeldIns w ao L) :
    Calls Tryd.prog 107 #[.agg #[.int .i64 P, .int .i64 R, .int .i64 V, .slice ao L.length cap]] w (ReachPost w L) := by
  have hn40 := hp.n40
  obtain ⟨i0, hi0, hz0, hz1', hz2'⟩ := info_parts Tryd.info3
  have HP := hide hp
  have HH := hide hH
  have KN := hide nexts_any
  obtain ⟨w1, w2, w3, hw1, hw2, hw3, HB3, hz1, hz2, hP1⟩ := seek_start w P R V (.slice ao L.length cap) L.length 0
  rw [show ((0 : Nat) : Int) = 0 from rfl] at hw3 HB3
  have hmk := makeB L.length (by omega) w1
  rw [← hw2] at hmk
  have p3 := hP1.c3
  have HW1 := hide hw1
  have HW3 := hide hw3
  have HS0 : Hid (Reach L (fun _ => false) [(0 : Int)]) := Reach.begin hp.n1
  clear hH hp hw1 hw2 hw3 hP1
  go_enter Tryd.func107, Tryd.ntmps107
  go_upto_region 1 with fail
  rw [← unhide HW1]
  go_upto_region 3 with fail
  rw [← unhide HW3]
  clear p3 hmk HW1 HW3
  go_loopw [4] (fun v wr => ∃ been todo, Hid (Reach L been todo) ∧ Hid (SeekB w wr P R V (.slice ao L.length cap) L.length been todo v)) (fun v wr => 2 * newC (beenW wr (w.heap.size + 1)) L.length + slLen v)
  case atStart => exact ⟨_, _, unhide HS0, unhide HB3⟩
  case round =>
    obtain ⟨been, todo, HS, HB⟩ := hrel
    have HM := hide (unhide HB).measure
    rcases list_last todo with rfl | ⟨t, z, rfl⟩
    · obtain ⟨ta, tc, rfl, _, _⟩ := own_heldI (unhide HB).own
      go_wp2_with fail
      go_returns
      refine ⟨been, rfl, (unhide HB).row, ?_, fun j k hj hn => ?_, (unhide HB).bel⟩
      · rcases (unhide HS).start with e | e
        · exact e
        · cases e
      · rcases (unhide HS).cl j k hj hn with e | e
        · exact e
        · cases e
    · obtain ⟨g, tc, rfl, hcap, hz, hB'⟩ := (unhide HB).pop
      obtain ⟨j, rfl, hj⟩ := (unhide HS).lt z (List.mem_append.2 (.inr (List.mem_singleton.2 rfl)))
      have HB1 := hide hB'
      have cb := (unhide HB).row.cell hj
      have hjl : (j : Int) < (L.length : Int) := by omega
      have hj0 : (0 : Int) ≤ (j : Int) := by omega
      have htl : t.length ≤ 100 := by have := (unhide HB1).few; omega
      obtain ⟨bj, hbj⟩ : ∃ bj, bj = been j := ⟨_, rfl⟩
      rw [← hbj] at cb
      have HBJ := hide hbj
      clear hB' hbj
      cases bj
      · have hf : ∀ o, wr.frozen? ⟨w.heap.size + 1, o, none⟩ = false := (unhide HB).row.free
        have HB4 := hide ((unhide HB1).at j)
        obtain ⟨w4, hw4⟩ : ∃ w4, w4 = wr.setCell ⟨w.heap.size + 1, j, none⟩ (.bool true) := ⟨_, rfl⟩
        rw [← hw4] at HB4
        have HW4 := hide hw4
        clear hw4
        go_upto_region 8 with fail
        rw [← unhide HW4]
        clear cb hf hz HW4
        have HC := hide (newC_on (been := been) (j := j) (unhide HBJ).symm L.length hj)
        have p0 := (unhide HB4).p.c0
        have p1 := (unhide HB4).p.c1
        have p2 := (unhide HB4).p.c2
        have p3 := (unhide HB4).p.c3
        have KN1 := hide (unhide KN P R V L ao cap j hj hn40 w4 ((unhide HH).below (unhide HB4).bel))
        have HSN := hide ((unhide HS).on (right_inside (unhide HP)) (right_nxt (unhide HP)))
        have hl2 := nxtL_len (inAt L j) j
        obtain ⟨xs, hxs⟩ : ∃ xs, xs = nxtL (inAt L j) j := ⟨_, rfl⟩
        unfold NextPost at KN1
        rw [← hxs] at KN1 HSN hl2
        clear hxs
        go_wp2_with fail
        refine (unhide KN1).mono ?_
        rintro _ w7 ⟨so, sc, rfl, hN, hb7, hnil⟩
        have HB7 := hide ((unhide HB4).below hb7)
        have hown := (unhide HB7).own
        have hbig := (unhide HB7).big
        have htl2 := (unhide HB7).few
        clear p0 p1 p2 p3 hb7 HB4 KN1
        cases so with
        | none =>
          obtain ⟨rfl, rfl⟩ := hnil rfl
          go_wp2_with (at_builtin; refine wpList_append_own_none rfl _ _ 32 rfl (w.heap.size + 2) 3 i0 1 Tryd.underlying32 hi0 _ _ _ rfl hown rfl ?_)
          go_roundw
          case rel => exact ⟨_, _, by rw [List.append_nil] at HSN; exact unhide HSN, unhide HB7⟩
          case measure =>
            have h1 := (unhide HB7).measure
            have h2 := unhide HM
            have h3 := unhide HC
            rw [List.length_append, List.length_singleton] at h2
            rw [h1, h2]; omega
        | some ad =>
          have hnews := held_cells hN
          have hpl := intCells_plain xs
          go_wp2_with (at_builtin; refine wpList_append_own _ rfl _ _ 32 rfl (w.heap.size + 2) 3 i0 (.int .i64 0) 1 8 Tryd.underlying32 hi0 hz0 hz1' hz2' rfl (by decide) _ _ _ rfl hown ad xs.length sc (intCells xs) rfl (by rw [intCells_len, Nat.mul_one]) hnews hpl (by unfold maxLen; omega) (by omega) hbig ?_)
          intro v' w8 hown' hgrow _
          have hf' : 2 * newC (fun k => k == j || been k) L.length + t.length + xs.length ≤ 2 * L.length + 1 := by
            have h3 := unhide HC
            have h4 := (unhide HB).few
            rw [List.length_append, List.length_singleton] at h4
            omega
          have HB8 := hide ((unhide HB7).more hown' hgrow hf')
          clear hown' hgrow hown hnews hpl hN
          go_wp2_with fail
          go_roundw
          case rel => exact ⟨_, _, unhide HSN, unhide HB8⟩
          case measure =>
            have h1 := (unhide HB8).measure
            have h2 := unhide HM
            have h3 := unhide HC
            rw [List.length_append, List.length_singleton] at h2
            rw [List.length_append] at h1
            rw [h1, h2]; omega
      · go_wp2_with fail
        go_roundw
        case rel => exact ⟨been, t, (unhide HS).again (unhide HBJ).symm, unhide HB1⟩
        case measure =>
          have h1 := (unhide HB1).measure
          have h2 := unhide HM
          rw [List.length_append, List.length_singleton] at h2
          rw [h1, h2]; omega
end Go.Proofs.YtoepcplbpochpaaDoor
