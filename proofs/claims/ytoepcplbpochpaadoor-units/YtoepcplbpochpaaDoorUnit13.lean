/-
  What code.Check answers of a list of instructions: the first error, and its place.
-/
import Derived.Test.YtoepcplbpochpaaDoorUnit12
import Derived.Test.YtoepcplbpochpaaDoorUnit11

namespace Go.Proofs.YtoepcplbpochpaaDoor
open Go.RowKit

set_option maxRecDepth 100000 in
set_option maxHeartbeats 2000000 in
theorem codeCheck_any (u : Bool) (r v s : Int) (L : List In4) (ao : Option Addr) (cap : Nat) (w : World) (hH : HeldIns w ao L) (h1 : 1 ≤ L.length) (hn : L.length ≤ 9223372036854775807) (hT : Tab w) (hw0 : 0 < w.heap.size) :
    Calls Tryd.prog 42 #[.slice ao L.length cap, .agg #[.bool u, .int .i64 r, .int .i64 s, .int .i64 v]] w fun e w' =>
      e = .returned (.tuple #[.int .i64 (codedE (!u) L r v s).1, .int .i64 (codedE (!u) L r v s).2]) ∧ Below w.heap.size w w' := by
  obtain ⟨b, off, rfl, hb, hL⟩ : ∃ b off, ao = some ⟨b, off, none⟩ ∧ b < w.heap.size ∧ LieI w b off L := by
    rcases hH with h | h
    · subst h; exact absurd h1 (by simp)
    · exact h
  have HL := hide hL
  have HT := hide hT
  clear hL hT hH
  obtain ⟨p, hp⟩ : ∃ p, (!u) = p := ⟨_, rfl⟩
  have KI := hide (fun (x : In4) w (hT : Tab w) (hw0 : 0 < w.heap.size) => insError_any u x r (L.length : Int) v s w hT hw0)
  rw [hp] at KI ⊢
  clear hp
  have hne : ((L.length : Int) == 0) = false := by rw [beq_eq_false_iff_ne]; omega
  go_enter Tryd.func42, Tryd.ntmps42
  go_wp2_with fail
  obtain ⟨w3, hw3⟩ : ∃ w3, w3 = w.alloc (.cells #[.bool u, .int .i64 r, .int .i64 s, .int .i64 v] 72) := ⟨_, rfl⟩
  rw [← hw3]
  have l0 : w3.cell? ⟨w.heap.size, 0, none⟩ = some (.bool u) := by rw [hw3, World.cell?_alloc_at (hn := rfl)]; rfl
  have l1 : w3.cell? ⟨w.heap.size, 1, none⟩ = some (.int .i64 r) := by rw [hw3, World.cell?_alloc_at (hn := rfl)]; rfl
  have l2 : w3.cell? ⟨w.heap.size, 2, none⟩ = some (.int .i64 s) := by rw [hw3, World.cell?_alloc_at (hn := rfl)]; rfl
  have l3 : w3.cell? ⟨w.heap.size, 3, none⟩ = some (.int .i64 v) := by rw [hw3, World.cell?_alloc_at (hn := rfl)]; rfl
  have HB3 : Hid (Below w.heap.size w w3) := by rw [hw3]; exact (Below.refl _ _).alloc (Nat.le_refl _) _
  have hz3 : w.heap.size < w3.heap.size := by rw [hw3]; simp
  clear hw3
  go_loopw [6] (fun i wr => ∃ k : Nat, k ≤ L.length ∧ i = .int .i64 k ∧ Hid (codedE p L r v s = codedFrom p L r v s k (L.length - k)) ∧ Below w3.heap.size w3 wr) (fun i _ => L.length - (intOf i).toNat)
  case atStart => exact ⟨0, Nat.zero_le _, rfl, rfl, Below.refl _ _⟩
  case round =>
    obtain ⟨k, hk, rfl, HC, hbel⟩ := hrel
    have hB := hbel.size
    have HBr : Hid (Below w.heap.size w wr) := (unhide HB3).trans (hbel.mono (by omega))
    by_cases hlt : k < L.length
    case neg =>
      obtain rfl : k = L.length := by omega
      obtain ⟨x, hx⟩ : ∃ x, x = inAt L (L.length - 1) := ⟨_, rfl⟩
      have hA := (unhide HL (L.length - 1) (by omega)).below (unhide HBr) hb
      rw [← hx] at hA
      have c0 : wr.cell? ⟨b, off + (L.length - 1) * 4, none⟩ = some (.int .i64 x.op) := hA.1
      obtain ⟨n, hnn⟩ : ∃ n, L.length = n + 1 := ⟨L.length - 1, by omega⟩
      have he2 := hide (show codedE p L r v s = if x.op ≠ 7 ∧ x.op ≠ 10 then (9, (L.length : Int) - 1) else (0, 0) by
        rw [unhide HC, Nat.sub_self, hx]; rfl)
      rw [show L.length - 1 = n by omega] at c0
      rw [hnn] at he2 hn hlt ⊢
      clear hA hx hnn HC l0 l1 l2 l3 hne
      by_cases h7 : x.op = 7
      · have he' := hide (show codedE p L r v s = (0, 0) by rw [unhide he2, if_neg (fun h => h.1 h7)])
        rw [h7] at c0
        clear h7 he2
        go_wp2
        go_ret2
        exact ⟨ret2 (by rw [unhide he']) (by rw [unhide he']), unhide HBr⟩
      by_cases h10 : x.op = 10
      · have he' := hide (show codedE p L r v s = (0, 0) by rw [unhide he2, if_neg (fun h => h.2 h10)])
        rw [h10] at c0
        clear h7 h10 he2
        go_wp2
        go_ret2
        exact ⟨ret2 (by rw [unhide he']) (by rw [unhide he']), unhide HBr⟩
      · have he' := hide (show codedE p L r v s = (9, (n : Int)) by rw [unhide he2, if_pos ⟨h7, h10⟩]; congr 1; omega)
        have h7' : (x.op != 7) = true := by rw [bne_iff_ne]; exact h7
        have h10' : (x.op != 10) = true := by rw [bne_iff_ne]; exact h10
        clear he2
        go_wp2
        go_ret2
        exact ⟨ret2 (by rw [unhide he']) (by rw [unhide he']), unhide HBr⟩
    obtain ⟨x, hx⟩ : ∃ x, x = inAt L k := ⟨_, rfl⟩
    have hA := (unhide HL k hlt).below (unhide HBr) hb
    rw [← hx] at hA
    obtain ⟨c0, c1, c2, c3⟩ := hA
    have m0 := (hbel.cell (p := ⟨w.heap.size, 0, none⟩) hz3).trans l0
    have m1 := (hbel.cell (p := ⟨w.heap.size, 1, none⟩) hz3).trans l1
    have m2 := (hbel.cell (p := ⟨w.heap.size, 2, none⟩) hz3).trans l2
    have m3 := (hbel.cell (p := ⟨w.heap.size, 3, none⟩) hz3).trans l3
    have KC := hide (unhide KI x)
    have HTr := hide ((unhide HT).below (unhide HBr) hw0)
    have hr0 : 0 < wr.heap.size := by omega
    have hbr : b < wr.heap.size := by omega
    have h2r : w.heap.size < wr.heap.size := by omega
    obtain ⟨er, her⟩ : ∃ er, er = insE p x r (L.length : Int) v s := ⟨_, rfl⟩
    rw [← her] at KC
    have HX := hide hx
    have HE := hide her
    clear hx her l0 l1 l2 l3 KI
    by_cases h0 : er = 0
    · subst h0
      have hnx := hide (show codedE p L r v s = codedFrom p L r v s (k + 1) (L.length - (k + 1)) by
        rw [unhide HC]; exact coded_on hlt (by rw [← unhide HX]; exact (unhide HE).symm))
      go_wp2_with fail
      go_region_held3 (fun w' => w'.cell? ⟨b, off + k * 4, none⟩ = some (.int .i64 x.op) ∧ w'.cell? ⟨b, off + k * 4 + 1, none⟩ = some (.int .i64 x.d) ∧ w'.cell? ⟨b, off + k * 4 + 2, none⟩ = some (.int .i64 x.a) ∧ w'.cell? ⟨b, off + k * 4 + 3, none⟩ = some (.int .i64 x.b) ∧ w'.cell? ⟨w.heap.size, 0, none⟩ = some (.bool u) ∧ w'.cell? ⟨w.heap.size, 1, none⟩ = some (.int .i64 r) ∧ w'.cell? ⟨w.heap.size, 2, none⟩ = some (.int .i64 s) ∧ w'.cell? ⟨w.heap.size, 3, none⟩ = some (.int .i64 v)) (first | (simp [*]; done) | (refine ⟨?_, ?_, ?_, ?_, ?_, ?_, ?_, ?_⟩ <;> assumption))
        ((go_at_call 80; refine (unhide KC _ ?_ ?_).mono ?_; exact unhide HTr; exact hr0; rintro e w4 ⟨rfl, hb4⟩; have x0 := (hb4.cell (p := ⟨b, off + k * 4, none⟩) hbr).trans c0; have x1 := (hb4.cell (p := ⟨b, off + k * 4 + 1, none⟩) hbr).trans c1; have x2 := (hb4.cell (p := ⟨b, off + k * 4 + 2, none⟩) hbr).trans c2; have x3 := (hb4.cell (p := ⟨b, off + k * 4 + 3, none⟩) hbr).trans c3; have y0 := (hb4.cell (p := ⟨w.heap.size, 0, none⟩) h2r).trans m0; have y1 := (hb4.cell (p := ⟨w.heap.size, 1, none⟩) h2r).trans m1; have y2 := (hb4.cell (p := ⟨w.heap.size, 2, none⟩) h2r).trans m2; have y3 := (hb4.cell (p := ⟨w.heap.size, 3, none⟩) h2r).trans m3; have HB4 := hide (hbel.drew.trans (hb4.mono hB)); clear hb4))
      go_wp2
      go_roundw
      case rel => exact ⟨k + 1, by omega, by go_num, unhide hnx, unhide HB4⟩
      case measure => simp [intOf]; omega
    · have he3 := hide (show codedE p L r v s = (er, (k : Int)) by
        rw [unhide HC, coded_here hlt (by rw [← unhide HX, ← unhide HE]; exact h0), ← unhide HX, ← unhide HE])
      have h0' : (er != 0) = true := by rw [bne_iff_ne]; exact h0
      go_wp2_with fail
      go_region_held3 (fun w' => w'.cell? ⟨b, off + k * 4, none⟩ = some (.int .i64 x.op) ∧ w'.cell? ⟨b, off + k * 4 + 1, none⟩ = some (.int .i64 x.d) ∧ w'.cell? ⟨b, off + k * 4 + 2, none⟩ = some (.int .i64 x.a) ∧ w'.cell? ⟨b, off + k * 4 + 3, none⟩ = some (.int .i64 x.b) ∧ w'.cell? ⟨w.heap.size, 0, none⟩ = some (.bool u) ∧ w'.cell? ⟨w.heap.size, 1, none⟩ = some (.int .i64 r) ∧ w'.cell? ⟨w.heap.size, 2, none⟩ = some (.int .i64 s) ∧ w'.cell? ⟨w.heap.size, 3, none⟩ = some (.int .i64 v)) (first | (simp [*]; done) | (refine ⟨?_, ?_, ?_, ?_, ?_, ?_, ?_, ?_⟩ <;> assumption))
        ((go_at_call 80; refine (unhide KC _ ?_ ?_).mono ?_; exact unhide HTr; exact hr0; rintro e w4 ⟨rfl, hb4⟩; have x0 := (hb4.cell (p := ⟨b, off + k * 4, none⟩) hbr).trans c0; have x1 := (hb4.cell (p := ⟨b, off + k * 4 + 1, none⟩) hbr).trans c1; have x2 := (hb4.cell (p := ⟨b, off + k * 4 + 2, none⟩) hbr).trans c2; have x3 := (hb4.cell (p := ⟨b, off + k * 4 + 3, none⟩) hbr).trans c3; have y0 := (hb4.cell (p := ⟨w.heap.size, 0, none⟩) h2r).trans m0; have y1 := (hb4.cell (p := ⟨w.heap.size, 1, none⟩) h2r).trans m1; have y2 := (hb4.cell (p := ⟨w.heap.size, 2, none⟩) h2r).trans m2; have y3 := (hb4.cell (p := ⟨w.heap.size, 3, none⟩) h2r).trans m3; have HB4 := hide (hbel.drew.trans (hb4.mono hB)); clear hb4))
      go_wp2
      go_ret2
      exact ⟨ret2 (by rw [unhide he3]) (by rw [unhide he3]), (unhide HB3).trans ((unhide HB4).mono (by omega))⟩
end Go.Proofs.YtoepcplbpochpaaDoor

/-
  What mach.Check answers of a unit: the error and the place.
-/
namespace Go.Proofs.YtoepcplbpochpaaDoor
open Go.RowKit

/-- The error of a unit, and its place. -/
noncomputable def unitE (K S P V : Int) (L : List In4) (T : ByteArray) : Int × Int :=
  @ite _ (UnitBad K S P V L.length) (decUnit K S P V L.length) (1, 0)
    (if (codedE false L K 0 S).1 ≠ 0 then codedE false L K 0 S else if tabB T K S V L.length = true then (0, 0) else (10, 0))
theorem unitE_bad {K S P V : Int} {L : List In4} {T : ByteArray} (h : UnitBad K S P V L.length) : unitE K S P V L T = (1, 0) := by unfold unitE; exact @if_pos _ (decUnit _ _ _ _ _) h _ _ _
theorem unitE_good {K S P V : Int} {L : List In4} {T : ByteArray} (h : ¬ UnitBad K S P V L.length) : unitE K S P V L T = if (codedE false L K 0 S).1 ≠ 0 then codedE false L K 0 S else if tabB T K S V L.length = true then (0, 0) else (10, 0) := by
  unfold unitE; exact @if_neg _ (decUnit _ _ _ _ _) h _ _ _

set_option maxRecDepth 100000 in
set_option maxHeartbeats 2000000 in
theorem machCheck_any (K S P V : Int) (L : List In4) (T : ByteArray) (ao : Option Addr) (cap : Nat) (w : World) (hH : HeldIns w ao L) (hn : L.length ≤ 9223372036854775807) (hs : T.size ≤ maxLen) (hT : Tab w) (hw0 : 0 < w.heap.size) :
    Calls Tryd.prog 13 #[.agg #[.int .i64 K, .int .i64 S, .int .i64 P, .int .i64 V, .slice ao L.length cap, .string T]] w fun e w' =>
      e = .returned (.tuple #[.int .i64 (unitE K S P V L T).1, .int .i64 (unitE K S P V L T).2]) ∧ Below w.heap.size w w' := by
  have KS := hide (fun w => isSizeU_any K S P V L T ao cap w hn)
  by_cases hb : UnitBad K S P V L.length
  · have he := hide (unitE_bad (T := T) hb)
    rw [unitB_bad hb] at KS
    clear hb hT hs
    go_enter Tryd.func13, Tryd.ntmps13
    go_wp2_with (go_at_call 45; refine (unhide KS _).mono ?_; rintro e w2 ⟨rfl, hb2⟩)
    go_ret2
    exact ⟨ret2 (by rw [unhide he]) (by rw [unhide he]), ((Below.refl _ _).alloc (Nat.le_refl _) _).trans (hb2.mono (by simp))⟩
  have he := hide (unitE_good (T := T) hb)
  rw [unitB_good hb] at KS
  have g8 : 1 ≤ L.length := (unit_good hb).2.2.2.2.2.2.2.2.2.1
  have KC := hide (fun w (hH : HeldIns w ao L) (hT : Tab w) (hw0 : 0 < w.heap.size) => codeCheck_any true K 0 S L ao cap w hH g8 hn hT hw0)
  have KT := hide (fun w => isTableU_any K S P V L.length T ao cap w hs)
  rw [show (!true) = false from rfl] at KC
  obtain ⟨e1, he1⟩ : ∃ e, e = (codedE false L K 0 S).1 := ⟨_, rfl⟩
  obtain ⟨e2, he2⟩ : ∃ e, e = (codedE false L K 0 S).2 := ⟨_, rfl⟩
  obtain ⟨tb, htb⟩ : ∃ b, b = tabB T K S V L.length := ⟨_, rfl⟩
  have he' := hide (show unitE K S P V L T = if e1 ≠ 0 then (e1, e2) else if tb = true then (0, 0) else (10, 0) by rw [unhide he, he1, he2, htb])
  rw [← he1, ← he2] at KC
  rw [← htb] at KT
  have HH := hide hH
  have HT := hide hT
  clear hb hH hT he g8 he1 he2 htb hs
  go_enter Tryd.func13, Tryd.ntmps13
  go_wp2_with fail
  obtain ⟨w1, hw1, h6, HB1, hz⟩ := unit_open w K S P V (.slice ao L.length cap) T
  rw [← hw1]
  clear hw1
  refine (unhide KS w1).mono ?_
  rintro e w2 ⟨rfl, hb2⟩
  have hz2 : w.heap.size < w2.heap.size := Nat.lt_of_lt_of_le hz hb2.size
  have h62 := h6.below hb2 hz
  have H62 := hide h62
  obtain ⟨q0, q1, q2, q3, q4, q5⟩ := h62
  have HB2 : Hid (Below w.heap.size w w2) := hide ((unhide HB1).trans (hb2.mono (Nat.le_of_lt hz)))
  clear hb2 h6
  go_wp2_with fail
  refine (unhide KC w2 ((unhide HH).below (unhide HB2)) ((unhide HT).below (unhide HB2) hw0) (by omega)).mono ?_
  rintro e w3 ⟨rfl, hb3⟩
  have HB3 : Hid (Below w.heap.size w w3) := hide ((unhide HB2).trans (hb3.mono (Nat.le_of_lt hz2)))
  obtain ⟨r0, r1, r2, r3, r4, r5⟩ := (unhide H62).below hb3 hz2
  have hz3 : w.heap.size < w3.heap.size := Nat.lt_of_lt_of_le hz2 hb3.size
  clear hb3 q0 q1 q2 q3 q4 q5
  by_cases h1 : e1 = 0
  case neg =>
    have h1' : (e1 != 0) = true := by rw [bne_iff_ne]; exact h1
    have he2 := hide (show unitE K S P V L T = (e1, e2) by rw [unhide he', if_pos h1])
    go_wp2_with fail
    go_ret2
    exact ⟨ret2 (by rw [unhide he2]) (by rw [unhide he2]), unhide HB3⟩
  subst h1
  go_wp2_with fail
  refine (unhide KT w3).mono ?_
  rintro e w4 ⟨rfl, hb4⟩
  have HB4 : Hid (Below w.heap.size w w4) := hide ((unhide HB3).trans (hb4.mono (Nat.le_of_lt hz3)))
  clear hb4
  cases tb
  · have he2 := hide (show unitE K S P V L T = (10, 0) by rw [unhide he', if_neg (fun h => h rfl), if_neg (by decide)])
    go_wp2_with fail
    go_ret2
    exact ⟨ret2 (by rw [unhide he2]) (by rw [unhide he2]), unhide HB4⟩
  · have he2 := hide (show unitE K S P V L T = (0, 0) by rw [unhide he', if_neg (fun h => h rfl), if_pos rfl])
    go_wp2_with fail
    go_ret2
    exact ⟨ret2 (by rw [unhide he2]) (by rw [unhide he2]), unhide HB4⟩
end Go.Proofs.YtoepcplbpochpaaDoor

/-
  What ir.Check answers of a program: the error and the place that the document's own check tells.
-/
namespace Go.Proofs.YtoepcplbpochpaaDoor
open Go.RowKit

def sizeB (P R V : Int) (n : Nat) : Bool := @ite _ (SizeBad P R V n) (decSize P R V n) false true
theorem sizeB_bad {P R V : Int} {n : Nat} (h : SizeBad P R V n) : sizeB P R V n = false := @if_pos _ (decSize _ _ _ _) h _ _ _
theorem sizeB_good {P R V : Int} {n : Nat} (h : ¬ SizeBad P R V n) : sizeB P R V n = true := @if_neg _ (decSize _ _ _ _) h _ _ _

set_option maxRecDepth 100000 in
set_option maxHeartbeats 2000000 in
theorem isSize_any (P R V : Int) (L : List In4) (ao : Option Addr) (cap : Nat) (w : World) (hn : L.length ≤ 9223372036854775807) :
    Calls Tryd.prog 41 #[.agg #[.int .i64 P, .int .i64 R, .int .i64 V, .slice ao L.length cap]] w fun e w' =>
      e = .returned (.bool (sizeB P R V L.length)) ∧ Below w.heap.size w w' := by
  by_cases hs : SizeBad P R V L.length
  · have HS := hide (sizeB_bad hs)
    have hcases : R < 1 ∨ (1 ≤ R ∧ 12 < R) ∨ (1 ≤ R ∧ R ≤ 12 ∧ P < 0) ∨ (1 ≤ R ∧ R ≤ 12 ∧ 0 ≤ P ∧ 4 < P) ∨ (1 ≤ R ∧ R ≤ 12 ∧ 0 ≤ P ∧ P ≤ 4 ∧ R < P) ∨ (1 ≤ R ∧ R ≤ 12 ∧ 0 ≤ P ∧ P ≤ 4 ∧ P ≤ R ∧ V < 0) ∨ (1 ≤ R ∧ R ≤ 12 ∧ 0 ≤ P ∧ P ≤ 4 ∧ P ≤ R ∧ 0 ≤ V ∧ 4 < V) ∨ (1 ≤ R ∧ R ≤ 12 ∧ 0 ≤ P ∧ P ≤ 4 ∧ P ≤ R ∧ 0 ≤ V ∧ V ≤ 4 ∧ L.length < 1) ∨ (1 ≤ R ∧ R ≤ 12 ∧ 0 ≤ P ∧ P ≤ 4 ∧ P ≤ R ∧ 0 ≤ V ∧ V ≤ 4 ∧ 1 ≤ L.length ∧ 40 < L.length) := by
      unfold SizeBad at hs; omega
    clear hs
    rcases hcases with h | ⟨g1, h⟩ | ⟨g1, g2, h⟩ | ⟨g1, g2, g3, h⟩ | ⟨g1, g2, g3, g4, h⟩ | ⟨g1, g2, g3, g4, g5, h⟩ | ⟨g1, g2, g3, g4, g5, g6, h⟩ | ⟨g1, g2, g3, g4, g5, g6, g7, h⟩ | ⟨g1, g2, g3, g4, g5, g6, g7, g8, h⟩
    all_goals
      go_enter Tryd.func41, Tryd.ntmps41
      go_wp2
      go_ret
      refine ⟨ret_bool ?_, (Below.refl _ _).alloc (Nat.le_refl _) _⟩
      rw [unhide HS]
      try (simp; omega)
  · have HS := hide (sizeB_good hs)
    unfold SizeBad at hs
    obtain ⟨g1, g2, g3, g4, g5, g6, g7, g8, g9⟩ : 1 ≤ R ∧ R ≤ 12 ∧ 0 ≤ P ∧ P ≤ 4 ∧ P ≤ R ∧ 0 ≤ V ∧ V ≤ 4 ∧ 1 ≤ L.length ∧ L.length ≤ 40 := by omega
    clear hs
    go_enter Tryd.func41, Tryd.ntmps41
    go_wp2
    go_ret
    refine ⟨ret_bool ?_, (Below.refl _ _).alloc (Nat.le_refl _) _⟩
    rw [unhide HS]
    try (simp; omega)

set_option maxRecDepth 100000 in
set_option maxHeartbeats 2000000 in
theorem irCheck_any (P R V : Int) (L : List In4) (ao : Option Addr) (cap : Nat) (w : World) (hH : HeldIns w ao L) (hn : L.length ≤ 9223372036854775807) (hT : Tab w) (hw0 : 0 < w.heap.size) :
    Calls Tryd.prog 11 #[.agg #[.int .i64 P, .int .i64 R, .int .i64 V, .slice ao L.length cap]] w fun e w' =>
      e = .returned (.tuple #[.int .i64 (progE P R V L).1, .int .i64 (progE P R V L).2]) ∧ Below w.heap.size w w' := by
  have KS := hide (fun w => isSize_any P R V L ao cap w hn)
  by_cases hs : SizeBad P R V L.length
  · have he := hide (progE_bad (L := L) hs)
    rw [sizeB_bad hs] at KS
    clear hs hT
    go_enter Tryd.func11, Tryd.ntmps11
    go_wp2_with (go_at_call 41; refine (unhide KS _).mono ?_; rintro e w2 ⟨rfl, hb2⟩)
    go_ret2
    exact ⟨ret2 (by rw [unhide he]) (by rw [unhide he]), ((Below.refl _ _).alloc (Nat.le_refl _) _).trans (hb2.mono (by simp))⟩
  have he := hide (progE_good (L := L) hs)
  rw [sizeB_good hs] at KS
  unfold SizeBad at hs
  have g8 : 1 ≤ L.length := by omega
  have KC := hide (fun w (hH : HeldIns w ao L) (hT : Tab w) (hw0 : 0 < w.heap.size) => codeCheck_any false R V 0 L ao cap w hH g8 hn hT hw0)
  rw [show (!false) = true from rfl, ← unhide he] at KC
  have HH := hide hH
  have HT := hide hT
  clear hs hH hT he g8
  go_enter Tryd.func11, Tryd.ntmps11
  go_wp2_with fail
  obtain ⟨w1, hw1⟩ : ∃ w1, w1 = w.alloc (.cells #[.int .i64 P, .int .i64 R, .int .i64 V, .slice ao L.length cap] 24) := ⟨_, rfl⟩
  rw [← hw1]
  have p1 : w1.cell? ⟨w.heap.size, 1, none⟩ = some (.int .i64 R) := by rw [hw1, World.cell?_alloc_at (hn := rfl)]; rfl
  have p2 : w1.cell? ⟨w.heap.size, 2, none⟩ = some (.int .i64 V) := by rw [hw1, World.cell?_alloc_at (hn := rfl)]; rfl
  have p3 : w1.cell? ⟨w.heap.size, 3, none⟩ = some (.slice ao L.length cap) := by rw [hw1, World.cell?_alloc_at (hn := rfl)]; rfl
  have hbel : Below w.heap.size w w1 := by rw [hw1]; exact (Below.refl _ _).alloc (Nat.le_refl _) _
  have hz : w.heap.size < w1.heap.size := by rw [hw1]; simp
  clear hw1
  refine (unhide KS w1).mono ?_
  rintro e w2 ⟨rfl, hb2⟩
  have hz2 : w.heap.size < w2.heap.size := Nat.lt_of_lt_of_le hz hb2.size
  have q1 := (hb2.cell (p := ⟨w.heap.size, 1, none⟩) hz).trans p1
  have q2 := (hb2.cell (p := ⟨w.heap.size, 2, none⟩) hz).trans p2
  have q3 := (hb2.cell (p := ⟨w.heap.size, 3, none⟩) hz).trans p3
  have HB2 : Hid (Below w.heap.size w w2) := hide (hbel.trans (hb2.mono (Nat.le_of_lt hz)))
  clear hb2 hbel p1 p2 p3
  go_wp2_with fail
  refine (unhide KC w2 ((unhide HH).below (unhide HB2)) ((unhide HT).below (unhide HB2) hw0) (by omega)).mono ?_
  rintro e w3 ⟨rfl, hb3⟩
  have HB3 : Hid (Below w.heap.size w w3) := hide ((unhide HB2).trans (hb3.mono (Nat.le_of_lt hz2)))
  clear hb3
  go_wp2_with fail
  go_ret2
  exact ⟨rfl, unhide HB3⟩
end Go.Proofs.YtoepcplbpochpaaDoor
