/-
  What mach.Check answers of a unit: the error and the place.
-/
import Derived.Test.YtoepcplbpochpaaDoorUnitTab
import Derived.Test.YtoepcplbpochpaaDoorCodeCheck
namespace Go.Proofs.YtoepcplbpochpaaDoor
open Go.RowKit

/-- The error of a unit, and its place. -/
noncomputable def unitE (K S P V : Int) (L : List In4) (T : ByteArray) : Int × Int :=
  @ite _ (UnitBad K S P V L.length) (decUnit K S P V L.length) (1, 0)
    (if (codedE false L K 0 S).1 ≠ 0 then codedE false L K 0 S else if tabB T K S V L.length = true then (0, 0) else (10, 0))
theorem unitE_bad {K S P V : Int} {L : List In4} {T : ByteArray} (h : UnitBad K S P V L.length) : unitE K S P V L T = (1, 0) := by unfold unitE; exact @if_pos _ (decUnit _ _ _ _ _) h _ _ _
theorem unitE_good {K S P V : Int} {L : List In4} {T : ByteArray} (h : ¬ UnitBad K S P V L.length) : unitE K S P V L T = if (codedE false L K 0 S).1 ≠ 0 then codedE false L K 0 S else if tabB T K S V L.length = true then (0, 0) else (10, 0) := by
  unfold unitE; exact @if_neg _ (decUnit _ _ _ _ _) h _ _ _

set_option maxRecDepth 100000 in
set_option maxHeartbeats 2000000 in
theorem machCheck_any (K S P V : Int) (L : List In4) (T : ByteArray) (ao : Option Addr) (cap : Nat) (w : World) (hH : HeldIns w ao L) (hn : L.length ≤ 9223372036854775807) (hs : T.size ≤ maxLen) (hT : Tab w) (hw0 : 0 < w.heap.size) :
    Calls Tryd.prog 13 #[.agg #[.int .i64 K, .int .i64 S, .int .i64 P, .int .i64 V, .slice ao L.length cap, .string T]] w fun e w' =>
      e = .returned (.tuple #[.int .i64 (unitE K S P V L T).1, .int .i64 (unitE K S P V L T).2]) ∧ Below w.heap.size w w' := by
  have KS := hide (fun w => isSizeU_any K S P V L T ao cap w hn)
  by_cases hb : UnitBad K S P V L.length
  · have he := hide (unitE_bad (T := T) hb)
    rw [unitB_bad hb] at KS
    clear hb hT hs
    go_enter Tryd.func13, Tryd.ntmps13
    go_wp2_with (go_at_call 45; refine (unhide KS _).mono ?_; rintro e w2 ⟨rfl, hb2⟩)
    go_ret2
    exact ⟨ret2 (by rw [unhide he]) (by rw [unhide he]), ((Below.refl _ _).alloc (Nat.le_refl _) _).trans (hb2.mono (by simp))⟩
  have he := hide (unitE_good (T := T) hb)
  rw [unitB_good hb] at KS
  have g8 : 1 ≤ L.length := (unit_good hb).2.2.2.2.2.2.2.2.2.1
  have KC := hide (fun w (hH : HeldIns w ao L) (hT : Tab w) (hw0 : 0 < w.heap.size) => codeCheck_any true K 0 S L ao cap w hH g8 hn hT hw0)
  have KT := hide (fun w => isTableU_any K S P V L.length T ao cap w hs)
  rw [show (!true) = false from rfl] at KC
  obtain ⟨e1, he1⟩ : ∃ e, e = (codedE false L K 0 S).1 := ⟨_, rfl⟩
  obtain ⟨e2, he2⟩ : ∃ e, e = (codedE false L K 0 S).2 := ⟨_, rfl⟩
  obtain ⟨tb, htb⟩ : ∃ b, b = tabB T K S V L.length := ⟨_, rfl⟩
  have he' := hide (show unitE K S P V L T = if e1 ≠ 0 then (e1, e2) else if tb = true then (0, 0) else (10, 0) by rw [unhide he, he1, he2, htb])
  rw [← he1, ← he2] at KC
  rw [← htb] at KT
  have HH := hide hH
  have HT := hide hT
  clear hb hH hT he g8 he1 he2 htb hs
  go_enter Tryd.func13, Tryd.ntmps13
  go_wp2_with fail
  obtain ⟨w1, hw1, h6, HB1, hz⟩ := unit_open w K S P V (.slice ao L.length cap) T
  rw [← hw1]
  clear hw1
  refine (unhide KS w1).mono ?_
  rintro e w2 ⟨rfl, hb2⟩
  have hz2 : w.heap.size < w2.heap.size := Nat.lt_of_lt_of_le hz hb2.size
  have h62 := h6.below hb2 hz
  have H62 := hide h62
  obtain ⟨q0, q1, q2, q3, q4, q5⟩ := h62
  have HB2 : Hid (Below w.heap.size w w2) := hide ((unhide HB1).trans (hb2.mono (Nat.le_of_lt hz)))
  clear hb2 h6
  go_wp2_with fail
  refine (unhide KC w2 ((unhide HH).below (unhide HB2)) ((unhide HT).below (unhide HB2) hw0) (by omega)).mono ?_
  rintro e w3 ⟨rfl, hb3⟩
  have HB3 : Hid (Below w.heap.size w w3) := hide ((unhide HB2).trans (hb3.mono (Nat.le_of_lt hz2)))
  obtain ⟨r0, r1, r2, r3, r4, r5⟩ := (unhide H62).below hb3 hz2
  have hz3 : w.heap.size < w3.heap.size := Nat.lt_of_lt_of_le hz2 hb3.size
  clear hb3 q0 q1 q2 q3 q4 q5
  by_cases h1 : e1 = 0
  case neg =>
    have h1' : (e1 != 0) = true := by rw [bne_iff_ne]; exact h1
    have he2 := hide (show unitE K S P V L T = (e1, e2) by rw [unhide he', if_pos h1])
    go_wp2_with fail
    go_ret2
    exact ⟨ret2 (by rw [unhide he2]) (by rw [unhide he2]), unhide HB3⟩
  subst h1
  go_wp2_with fail
  refine (unhide KT w3).mono ?_
  rintro e w4 ⟨rfl, hb4⟩
  have HB4 : Hid (Below w.heap.size w w4) := hide ((unhide HB3).trans (hb4.mono (Nat.le_of_lt hz3)))
  clear hb4
  cases tb
  · have he2 := hide (show unitE K S P V L T = (10, 0) by rw [unhide he', if_neg (fun h => h rfl), if_neg (by decide)])
    go_wp2_with fail
    go_ret2
    exact ⟨ret2 (by rw [unhide he2]) (by rw [unhide he2]), unhide HB4⟩
  · have he2 := hide (show unitE K S P V L T = (0, 0) by rw [unhide he', if_neg (fun h => h rfl), if_pos rfl])
    go_wp2_with fail
    go_ret2
    exact ⟨ret2 (by rw [unhide he2]) (by rw [unhide he2]), unhide HB4⟩
end Go.Proofs.YtoepcplbpochpaaDoor
