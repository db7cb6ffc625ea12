/-
  What the document's own check of a unit (lodgeref.CheckUnit) answers: the error and the place.
-/
import Derived.Test.YtoepcplbpochpaaDoorMachCheck
import Derived.Test.YtoepcplbpochpaaDoorTabled
import Derived.Test.YtoepcplbpochpaaDoorCoded
namespace Go.Proofs.YtoepcplbpochpaaDoor
open Go.RowKit

set_option maxRecDepth 100000 in
set_option maxHeartbeats 4000000 in
theorem checkUnit_good (K S P V : Int) (L : List In4) (T : ByteArray) (ao : Option Addr) (cap : Nat) (w : World) (hH : HeldIns w ao L) (hs : T.size ≤ maxLen) (hu : ¬ UnitBad K S P V L.length) :
    Calls Tryd.prog 14 #[.agg #[.int .i64 K, .int .i64 S, .int .i64 P, .int .i64 V, .slice ao L.length cap, .string T]] w fun e w' =>
      e = .returned (.tuple #[.int .i64 (unitE K S P V L T).1, .int .i64 (unitE K S P V L T).2]) ∧ Below w.heap.size w w' := by
  have he := hide (unitE_good (T := T) hu)
  obtain ⟨g1, g2, g3, g4, g5, g6, g7, g8, g9, g10, g11⟩ := unit_good hu
  obtain ⟨b, off, rfl, hb, hL⟩ : ∃ b off, ao = some ⟨b, off, none⟩ ∧ b < w.heap.size ∧ LieI w b off L := by
    rcases hH with h | h
    · subst h; exact absurd g10 (by simp)
    · exact h
  have KT := hide (fun w => tabled_any K S P V L.length T (some ⟨b, off, none⟩) cap w hs)
  have KC := hide (fun w g (hL : LieI w b off L) (hb : b < w.heap.size) (hg : w.heap[g]? = some (.cells (opsA false) 4 (0, 0))) => coded_any false L b off cap g K 0 S w hL hb hg (by omega) (by omega))
  obtain ⟨e1, he1⟩ : ∃ e, e = (codedE false L K 0 S).1 := ⟨_, rfl⟩
  obtain ⟨e2, he2⟩ : ∃ e, e = (codedE false L K 0 S).2 := ⟨_, rfl⟩
  obtain ⟨tb, htb⟩ : ∃ b, b = tabB T K S V L.length := ⟨_, rfl⟩
  have he' := hide (show unitE K S P V L T = if e1 ≠ 0 then (e1, e2) else if tb = true then (0, 0) else (10, 0) by rw [unhide he, he1, he2, htb])
  rw [← he1, ← he2] at KC
  rw [← htb] at KT
  have HL := hide hL
  clear hu hH hL hs he he1 he2 htb
  go_enter Tryd.func14, Tryd.ntmps14
  go_wp2_with fail
  obtain ⟨w1, hw1, h6, HB1, hz⟩ := unit_open w K S P V (.slice (some ⟨b, off, none⟩) L.length cap) T
  rw [← hw1]
  have H6 := hide h6
  have p0 := h6.1
  have p1 := h6.2.1
  have p4 := h6.2.2.2.2.1
  clear hw1 h6
  go_region_held3 (fun w' => w'.cell? ⟨w.heap.size, 0, none⟩ = some (.int .i64 K) ∧ w'.cell? ⟨w.heap.size, 1, none⟩ = some (.int .i64 S) ∧ w'.cell? ⟨w.heap.size, 4, none⟩ = some (.slice (some ⟨b, off, none⟩) L.length cap)) (simp [*])
    (first
      | (go_at_call 44; refine (ops_any false _).mono ?_; rintro e w2 ⟨rfl, hw2⟩; have hb2 : Below w1.heap.size w1.drew w2 := (by rw [hw2]; exact (Below.refl w1.heap.size w1.drew).alloc (Nat.le_refl _) _); have hs2 : w1.heap.size ≤ w2.heap.size := hb2.size; have hg2 : w2.heap[w1.heap.size]? = some (.cells (opsA false) 4 (0, 0)) := (by rw [hw2]; exact Array.getElem?_push_size); have q0 := (hb2.cell (p := ⟨w.heap.size, 0, none⟩) hz).trans p0; have q1 := (hb2.cell (p := ⟨w.heap.size, 1, none⟩) hz).trans p1; have q4 := (hb2.cell (p := ⟨w.heap.size, 4, none⟩) hz).trans p4; have HB2 : Hid (Below w.heap.size w w2) := hide (((unhide HB1).drew).trans (hb2.mono (Nat.le_of_lt hz))); have HG2 := hide hg2; have HBX := hide ((Below.refl w1.heap.size w1).drew.trans hb2); clear hw2 hb2 hg2)
      | (go_at_call 43; refine (unhide KC _ w1.heap.size ?_ ?_ ?_).mono ?_; exact (unhide HL).below (unhide HB2) hb; exact Nat.lt_of_lt_of_le hb (unhide HB2).size; exact unhide HG2; rintro e w3 ⟨rfl, hb3⟩; have HB3 : Hid (Below w.heap.size w w3) := hide ((unhide HB2).trans (hb3.mono (unhide HB2).size)); have hz3 : w.heap.size < w2.heap.size := Nat.lt_of_lt_of_le hz hs2; have r0 := (hb3.cell (p := ⟨w.heap.size, 0, none⟩) hz3).trans q0; have r1 := (hb3.cell (p := ⟨w.heap.size, 1, none⟩) hz3).trans q1; have r4 := (hb3.cell (p := ⟨w.heap.size, 4, none⟩) hz3).trans q4; have HBY := hide ((unhide HBX).trans (hb3.mono hs2)); clear hb3))
  all_goals
    have h62 := (unhide H6).below (unhide HBY) hz
    obtain ⟨_, _, t2, t3, _, t5⟩ := h62
    have hz4 : w.heap.size < w3.heap.size := Nat.lt_of_lt_of_le hz (unhide HBY).size
    clear HBX HBY HB1 HB2 HG2 H6 HL q0 q1 q4 p0 p1 p4
    by_cases h1 : e1 = 0
    case neg =>
      have h1' : (e1 != 0) = true := by rw [bne_iff_ne]; exact h1
      have he2 := hide (show unitE K S P V L T = (e1, e2) by rw [unhide he', if_pos h1])
      go_wp2_with fail
      go_ret2
      exact ⟨ret2 (by rw [unhide he2]) (by rw [unhide he2]), unhide HB3⟩
    subst h1
    go_wp2_with fail
    refine (unhide KT w3).mono ?_
    rintro e w4 ⟨rfl, hb4⟩
    have HB4 : Hid (Below w.heap.size w w4) := hide ((unhide HB3).trans (hb4.mono (Nat.le_of_lt hz4)))
    clear hb4
    cases tb
    · have he2 := hide (show unitE K S P V L T = (10, 0) by rw [unhide he', if_neg (fun h => h rfl), if_neg (by decide)])
      go_wp2_with fail
      go_ret2
      exact ⟨ret2 (by rw [unhide he2]) (by rw [unhide he2]), unhide HB4⟩
    · have he2 := hide (show unitE K S P V L T = (0, 0) by rw [unhide he', if_neg (fun h => h rfl), if_pos rfl])
      go_wp2_with fail
      go_ret2
      exact ⟨ret2 (by rw [unhide he2]) (by rw [unhide he2]), unhide HB4⟩

set_option maxRecDepth 100000 in
set_option maxHeartbeats 2000000 in
theorem checkUnit_any (K S P V : Int) (L : List In4) (T : ByteArray) (ao : Option Addr) (cap : Nat) (w : World) (hH : HeldIns w ao L) (hn : L.length ≤ 9223372036854775807) (hs : T.size ≤ maxLen) :
    Calls Tryd.prog 14 #[.agg #[.int .i64 K, .int .i64 S, .int .i64 P, .int .i64 V, .slice ao L.length cap, .string T]] w fun e w' =>
      e = .returned (.tuple #[.int .i64 (unitE K S P V L T).1, .int .i64 (unitE K S P V L T).2]) ∧ Below w.heap.size w w' := by
  by_cases hu : UnitBad K S P V L.length
  · have he := hide (unitE_bad (T := T) hu)
    rcases unit_cases hu with h | ⟨g1, h⟩ | ⟨g1, g2, h⟩ | ⟨g1, g2, g3, h⟩ | ⟨g1, g2, g3, g4, h⟩ | ⟨g1, g2, g3, g4, g5, h⟩ | ⟨g1, g2, g3, g4, g5, g6, h⟩ | ⟨g1, g2, g3, g4, g5, g6, g7, h⟩ | ⟨g1, g2, g3, g4, g5, g6, g7, g8, h⟩ | ⟨g1, g2, g3, g4, g5, g6, g7, g8, g9, h⟩ | ⟨g1, g2, g3, g4, g5, g6, g7, g8, g9, g10, h⟩
    all_goals
      clear hu
      go_enter Tryd.func14, Tryd.ntmps14
      go_wp2
      go_ret2
      exact ⟨ret2 (by rw [unhide he]) (by rw [unhide he]), (Below.refl _ _).alloc (Nat.le_refl _) _⟩
  · exact checkUnit_good K S P V L T ao cap w hH hs hu
end Go.Proofs.YtoepcplbpochpaaDoor
