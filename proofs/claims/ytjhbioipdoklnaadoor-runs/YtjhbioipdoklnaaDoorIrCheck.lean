/-
  What ir.Check answers of a program: the error and the place that the document's own check tells.
-/
import Derived.Test.YtjhbioipdoklnaaDoorFields
namespace Go.Proofs.YtjhbioipdoklnaaDoor
open Go.RowKit

theorem opB_prog (o : Nat) (h : o < 15) : opB true o = true := by
  rcases (show o = 0 ∨ o = 1 ∨ o = 2 ∨ o = 3 ∨ o = 4 ∨ o = 5 ∨ o = 6 ∨ o = 7 ∨ o = 8 ∨ o = 9 ∨ o = 10 ∨ o = 11 ∨ o = 12 ∨ o = 13 ∨ o = 14 by omega) with rfl | rfl | rfl | rfl | rfl | rfl | rfl | rfl | rfl | rfl | rfl | rfl | rfl | rfl | rfl <;> decide
theorem opB_prog_not (o : Nat) (h : 15 ≤ o) : opB true o = false := by
  unfold opB; simp; omega

set_option maxRecDepth 100000 in
set_option maxHeartbeats 1000000 in
theorem checkIns_any (x : In4) (r c v : Int) (w : World) (hT : Tab w) (hw0 : 0 < w.heap.size) :
    Calls Tryd.prog 25 #[.agg #[.int .i64 x.op, .int .i64 x.d, .int .i64 x.a, .int .i64 x.b], .agg #[.int .i64 r, .int .i64 0, .int .i64 v, .int .i64 c]] w fun e w' =>
      e = .returned (.int .i64 (insE true x r c v 0)) ∧ Below w.heap.size w w' := by
  by_cases ho : 0 ≤ x.op ∧ x.op ≤ 14
  · obtain ⟨o, hop⟩ : ∃ o : Nat, x.op = (o : Int) := ⟨x.op.toNat, by omega⟩
    have hoo : o < 15 := by omega
    have HE := hide (fields_insE true x o r c v 0 hop (by omega) (opB_prog o hoo))
    have KF := hide (fun w (hT : Tab w) (hw0 : 0 < w.heap.size) => fieldError_any x o r c v 0 w (by omega) hop hT hw0)
    have HT := hide hT
    obtain ⟨h0, h14⟩ := ho
    clear hT hop
    go_enter Tryd.func25, Tryd.ntmps25
    go_wp2_with fail
    obtain ⟨w1, hw1⟩ : ∃ w1, w1 = (w.alloc (.cells #[.int .i64 x.op, .int .i64 x.d, .int .i64 x.a, .int .i64 x.b] 42)).alloc (.cells #[.int .i64 r, .int .i64 0, .int .i64 v, .int .i64 c] 65) := ⟨_, rfl⟩
    rw [← hw1]
    have HB1 : Hid (Below w.heap.size w w1) := by rw [hw1]; exact ((Below.refl _ _).alloc (Nat.le_refl _) _).alloc (by simp) _
    have hz : w.heap.size ≤ w1.heap.size := (unhide HB1).size
    refine (unhide KF w1 ((unhide HT).below (unhide HB1) hw0) (by omega)).mono ?_
    rintro e w2 ⟨rfl, hb2⟩
    have HB2 := hide ((unhide HB1).trans (hb2.mono hz))
    clear hb2 hw1
    go_wp2
    go_ret
    exact ⟨ret_int (unhide HE).symm, unhide HB2⟩
  · have he := hide (show insE true x r c v 0 = 2 by
      unfold insE
      rw [if_pos]
      rintro ⟨h1, h2, h3⟩
      rw [opB_prog_not x.op.toNat (by omega)] at h3
      cases h3)
    rcases (show x.op < 0 ∨ (0 ≤ x.op ∧ 14 < x.op) by omega) with h | ⟨h, h'⟩
    all_goals
      clear ho hT
      go_enter Tryd.func25, Tryd.ntmps25
      go_wp2
      go_ret
      exact ⟨ret_int (unhide he).symm, ((Below.refl _ _).alloc (Nat.le_refl _) _).alloc (by simp) _⟩

def sizeB (P R V : Int) (n : Nat) : Bool := @ite _ (SizeBad P R V n) (decSize P R V n) false true
theorem sizeB_bad {P R V : Int} {n : Nat} (h : SizeBad P R V n) : sizeB P R V n = false := @if_pos _ (decSize _ _ _ _) h _ _ _
theorem sizeB_good {P R V : Int} {n : Nat} (h : ¬ SizeBad P R V n) : sizeB P R V n = true := @if_neg _ (decSize _ _ _ _) h _ _ _

set_option maxRecDepth 100000 in
set_option maxHeartbeats 2000000 in
theorem isSize_any (P R V : Int) (L : List In4) (ao : Option Addr) (cap : Nat) (w : World) (hn : L.length ≤ 9223372036854775807) :
    Calls Tryd.prog 24 #[.agg #[.int .i64 P, .int .i64 R, .int .i64 V, .slice ao L.length cap]] w fun e w' =>
      e = .returned (.bool (sizeB P R V L.length)) ∧ Below w.heap.size w w' := by
  by_cases hs : SizeBad P R V L.length
  · have HS := hide (sizeB_bad hs)
    have hcases : R < 1 ∨ (1 ≤ R ∧ 12 < R) ∨ (1 ≤ R ∧ R ≤ 12 ∧ P < 0) ∨ (1 ≤ R ∧ R ≤ 12 ∧ 0 ≤ P ∧ 4 < P) ∨ (1 ≤ R ∧ R ≤ 12 ∧ 0 ≤ P ∧ P ≤ 4 ∧ R < P) ∨ (1 ≤ R ∧ R ≤ 12 ∧ 0 ≤ P ∧ P ≤ 4 ∧ P ≤ R ∧ V < 0) ∨ (1 ≤ R ∧ R ≤ 12 ∧ 0 ≤ P ∧ P ≤ 4 ∧ P ≤ R ∧ 0 ≤ V ∧ 4 < V) ∨ (1 ≤ R ∧ R ≤ 12 ∧ 0 ≤ P ∧ P ≤ 4 ∧ P ≤ R ∧ 0 ≤ V ∧ V ≤ 4 ∧ L.length < 1) ∨ (1 ≤ R ∧ R ≤ 12 ∧ 0 ≤ P ∧ P ≤ 4 ∧ P ≤ R ∧ 0 ≤ V ∧ V ≤ 4 ∧ 1 ≤ L.length ∧ 40 < L.length) := by
      unfold SizeBad at hs; omega
    clear hs
    rcases hcases with h | ⟨g1, h⟩ | ⟨g1, g2, h⟩ | ⟨g1, g2, g3, h⟩ | ⟨g1, g2, g3, g4, h⟩ | ⟨g1, g2, g3, g4, g5, h⟩ | ⟨g1, g2, g3, g4, g5, g6, h⟩ | ⟨g1, g2, g3, g4, g5, g6, g7, h⟩ | ⟨g1, g2, g3, g4, g5, g6, g7, g8, h⟩
    all_goals
      go_enter Tryd.func24, Tryd.ntmps24
      go_wp2
      go_ret
      refine ⟨ret_bool ?_, (Below.refl _ _).alloc (Nat.le_refl _) _⟩
      rw [unhide HS]
      try (simp; omega)
  · have HS := hide (sizeB_good hs)
    unfold SizeBad at hs
    obtain ⟨g1, g2, g3, g4, g5, g6, g7, g8, g9⟩ : 1 ≤ R ∧ R ≤ 12 ∧ 0 ≤ P ∧ P ≤ 4 ∧ P ≤ R ∧ 0 ≤ V ∧ V ≤ 4 ∧ 1 ≤ L.length ∧ L.length ≤ 40 := by omega
    clear hs
    go_enter Tryd.func24, Tryd.ntmps24
    go_wp2
    go_ret
    refine ⟨ret_bool ?_, (Below.refl _ _).alloc (Nat.le_refl _) _⟩
    rw [unhide HS]
    try (simp; omega)

set_option maxRecDepth 100000 in
set_option maxHeartbeats 2000000 in
theorem irCheck_any (P R V : Int) (L : List In4) (ao : Option Addr) (cap : Nat) (w : World) (hH : HeldIns w ao L) (hn : L.length ≤ 9223372036854775807) (hT : Tab w) (hw0 : 0 < w.heap.size) :
    Calls Tryd.prog 12 #[.agg #[.int .i64 P, .int .i64 R, .int .i64 V, .slice ao L.length cap]] w fun e w' =>
      e = .returned (.tuple #[.int .i64 (progE P R V L).1, .int .i64 (progE P R V L).2]) ∧ Below w.heap.size w w' := by
  have KS := hide (fun w => isSize_any P R V L ao cap w hn)
  by_cases hs : SizeBad P R V L.length
  · have he := hide (progE_bad (L := L) hs)
    rw [sizeB_bad hs] at KS
    clear hs hT
    go_enter Tryd.func12, Tryd.ntmps12
    go_wp2_with (go_at_call 24; refine (unhide KS _).mono ?_; rintro e w2 ⟨rfl, hb2⟩)
    go_ret2
    exact ⟨ret2 (by rw [unhide he]) (by rw [unhide he]), ((Below.refl _ _).alloc (Nat.le_refl _) _).trans (hb2.mono (by simp))⟩
  have he := hide (progE_good (L := L) hs)
  rw [sizeB_good hs] at KS
  unfold SizeBad at hs
  obtain ⟨g8, g9⟩ : 1 ≤ L.length ∧ L.length ≤ 40 := by omega
  obtain ⟨b, off, rfl, hb, hL⟩ : ∃ b off, ao = some ⟨b, off, none⟩ ∧ b < w.heap.size ∧ LieI w b off L := by
    rcases hH with h | h
    · subst h; exact absurd g8 (by simp)
    · exact h
  clear hs hH
  have HL := hide hL
  have HT := hide hT
  clear hL hT
  go_enter Tryd.func12, Tryd.ntmps12
  go_wp2_with fail
  obtain ⟨w1, hw1⟩ : ∃ w1, w1 = w.alloc (.cells #[.int .i64 P, .int .i64 R, .int .i64 V, .slice (some ⟨b, off, none⟩) L.length cap] 24) := ⟨_, rfl⟩
  rw [← hw1]
  have p1 : w1.cell? ⟨w.heap.size, 1, none⟩ = some (.int .i64 R) := by rw [hw1, World.cell?_alloc_at (hn := rfl)]; rfl
  have p2 : w1.cell? ⟨w.heap.size, 2, none⟩ = some (.int .i64 V) := by rw [hw1, World.cell?_alloc_at (hn := rfl)]; rfl
  have p3 : w1.cell? ⟨w.heap.size, 3, none⟩ = some (.slice (some ⟨b, off, none⟩) L.length cap) := by rw [hw1, World.cell?_alloc_at (hn := rfl)]; rfl
  have hbel : Below w.heap.size w w1 := by rw [hw1]; exact (Below.refl _ _).alloc (Nat.le_refl _) _
  have hz : w.heap.size < w1.heap.size := by rw [hw1]; simp
  clear hw1
  refine (unhide KS w1).mono ?_
  rintro e w2 ⟨rfl, hb2⟩
  have hz2 : w.heap.size < w2.heap.size := Nat.lt_of_lt_of_le hz hb2.size
  have q1 := (hb2.cell (p := ⟨w.heap.size, 1, none⟩) hz).trans p1
  have q2 := (hb2.cell (p := ⟨w.heap.size, 2, none⟩) hz).trans p2
  have q3 := (hb2.cell (p := ⟨w.heap.size, 3, none⟩) hz).trans p3
  have HB2 : Hid (Below w.heap.size w w2) := hide (hbel.trans (hb2.mono (Nat.le_of_lt hz)))
  clear hb2 hbel p1 p2 p3
  go_wp2_with fail
  obtain ⟨w3, hw3⟩ : ∃ w3, w3 = w2.alloc (.cells #[.int .i64 R, .int .i64 0, .int .i64 V, .int .i64 (L.length : Int)] 65) := ⟨_, rfl⟩
  rw [← hw3]
  have l0 : w3.cell? ⟨w2.heap.size, 0, none⟩ = some (.int .i64 R) := by rw [hw3, World.cell?_alloc_at (hn := rfl)]; rfl
  have l1 : w3.cell? ⟨w2.heap.size, 1, none⟩ = some (.int .i64 0) := by rw [hw3, World.cell?_alloc_at (hn := rfl)]; rfl
  have l2 : w3.cell? ⟨w2.heap.size, 2, none⟩ = some (.int .i64 V) := by rw [hw3, World.cell?_alloc_at (hn := rfl)]; rfl
  have l3 : w3.cell? ⟨w2.heap.size, 3, none⟩ = some (.int .i64 (L.length : Int)) := by rw [hw3, World.cell?_alloc_at (hn := rfl)]; rfl
  have r3 : w3.cell? ⟨w.heap.size, 3, none⟩ = some (.slice (some ⟨b, off, none⟩) L.length cap) := by rw [hw3, World.cell?_alloc_past (hn := hz2)]; exact q3
  have HB3 : Hid (Below w.heap.size w w3) := by rw [hw3]; exact (unhide HB2).alloc (Nat.le_of_lt hz2) _
  have hz3 : w2.heap.size < w3.heap.size := by rw [hw3]; simp
  clear hw3 q1 q2 q3 HB2
  go_loopw [5] (fun i wr => ∃ k : Nat, k ≤ L.length ∧ i = .int .i64 k ∧ Hid (codedE true L R V 0 = codedFrom true L R V 0 k (L.length - k)) ∧ Below w3.heap.size w3 wr) (fun i _ => L.length - (intOf i).toNat)
  case atStart => exact ⟨0, Nat.zero_le _, rfl, rfl, Below.refl _ _⟩
  case round =>
    obtain ⟨k, hk, rfl, HC, hbel⟩ := hrel
    have hB := hbel.size
    have s3 := (hbel.cell (p := ⟨w.heap.size, 3, none⟩) (show w.heap.size < w3.heap.size by omega)).trans r3
    have HBr : Hid (Below w.heap.size w wr) := (unhide HB3).trans (hbel.mono (by omega))
    by_cases hlt : k < L.length
    case neg =>
      obtain rfl : k = L.length := by omega
      obtain ⟨x, hx⟩ : ∃ x, x = inAt L (L.length - 1) := ⟨_, rfl⟩
      have hA := (unhide HL (L.length - 1) (by omega)).below (unhide HBr) hb
      rw [← hx] at hA
      have c0 : wr.cell? ⟨b, off + (L.length - 1) * 4, none⟩ = some (.int .i64 x.op) := hA.1
      obtain ⟨n, hnn⟩ : ∃ n, L.length = n + 1 := ⟨L.length - 1, by omega⟩
      have he2 := hide (show progE P R V L = if x.op ≠ 7 ∧ x.op ≠ 10 then (9, (L.length : Int) - 1) else (0, 0) by
        rw [unhide he, unhide HC, Nat.sub_self, hx]; rfl)
      rw [show L.length - 1 = n by omega] at c0
      rw [hnn] at he2 hn hlt s3 ⊢
      clear hA hx hnn HC he l0 l1 l2 l3 r3
      by_cases h7 : x.op = 7
      · have he' := hide (show progE P R V L = (0, 0) by rw [unhide he2, if_neg (fun h => h.1 h7)])
        rw [h7] at c0
        clear h7 he2
        go_wp2
        go_ret2
        exact ⟨ret2 (by rw [unhide he']) (by rw [unhide he']), unhide HBr⟩
      by_cases h10 : x.op = 10
      · have he' := hide (show progE P R V L = (0, 0) by rw [unhide he2, if_neg (fun h => h.2 h10)])
        rw [h10] at c0
        clear h7 h10 he2
        go_wp2
        go_ret2
        exact ⟨ret2 (by rw [unhide he']) (by rw [unhide he']), unhide HBr⟩
      · have he' := hide (show progE P R V L = (9, (n : Int)) by rw [unhide he2, if_pos ⟨h7, h10⟩]; congr 1; omega)
        have h7' : (x.op != 7) = true := by rw [bne_iff_ne]; exact h7
        have h10' : (x.op != 10) = true := by rw [bne_iff_ne]; exact h10
        clear he2
        go_wp2
        go_ret2
        exact ⟨ret2 (by rw [unhide he']) (by rw [unhide he']), unhide HBr⟩
    obtain ⟨x, hx⟩ : ∃ x, x = inAt L k := ⟨_, rfl⟩
    have hA := (unhide HL k hlt).below (unhide HBr) hb
    rw [← hx] at hA
    obtain ⟨c0, c1, c2, c3⟩ := hA
    have m0 := (hbel.cell (p := ⟨w2.heap.size, 0, none⟩) hz3).trans l0
    have m1 := (hbel.cell (p := ⟨w2.heap.size, 1, none⟩) hz3).trans l1
    have m2 := (hbel.cell (p := ⟨w2.heap.size, 2, none⟩) hz3).trans l2
    have m3 := (hbel.cell (p := ⟨w2.heap.size, 3, none⟩) hz3).trans l3
    have KC := hide (fun w (hT : Tab w) (hw0 : 0 < w.heap.size) => checkIns_any x R (L.length : Int) V w hT hw0)
    have HTr := hide ((unhide HT).below (unhide HBr) hw0)
    have hr0 : 0 < wr.heap.size := by omega
    have hbr : b < wr.heap.size := by omega
    have hHr : w.heap.size < wr.heap.size := by omega
    have h2r : w2.heap.size < wr.heap.size := by omega
    obtain ⟨er, her⟩ : ∃ er, er = insE true x R (L.length : Int) V 0 := ⟨_, rfl⟩
    rw [← her] at KC
    have HX := hide hx
    have HE := hide her
    clear hx her l0 l1 l2 l3
    by_cases h0 : er = 0
    · subst h0
      have hnx := hide (show codedE true L R V 0 = codedFrom true L R V 0 (k + 1) (L.length - (k + 1)) by
        rw [unhide HC]; exact coded_on hlt (by rw [← unhide HX]; exact (unhide HE).symm))
      go_wp2_with fail
      go_region_held3 (fun w' => w'.cell? ⟨w.heap.size, 3, none⟩ = some (.slice (some ⟨b, off, none⟩) L.length cap) ∧ w'.cell? ⟨b, off + k * 4, none⟩ = some (.int .i64 x.op) ∧ w'.cell? ⟨b, off + k * 4 + 1, none⟩ = some (.int .i64 x.d) ∧ w'.cell? ⟨b, off + k * 4 + 2, none⟩ = some (.int .i64 x.a) ∧ w'.cell? ⟨b, off + k * 4 + 3, none⟩ = some (.int .i64 x.b) ∧ w'.cell? ⟨w2.heap.size, 0, none⟩ = some (.int .i64 R) ∧ w'.cell? ⟨w2.heap.size, 1, none⟩ = some (.int .i64 0) ∧ w'.cell? ⟨w2.heap.size, 2, none⟩ = some (.int .i64 V) ∧ w'.cell? ⟨w2.heap.size, 3, none⟩ = some (.int .i64 (L.length : Int))) (first | (simp [*]; done) | (refine ⟨?_, ?_, ?_, ?_, ?_, ?_, ?_, ?_, ?_⟩ <;> assumption))
        ((go_at_call 25; refine (unhide KC _ ?_ ?_).mono ?_; exact unhide HTr; exact hr0; rintro e w4 ⟨rfl, hb4⟩; have n3 := (hb4.cell (p := ⟨w.heap.size, 3, none⟩) hHr).trans s3; have x0 := (hb4.cell (p := ⟨b, off + k * 4, none⟩) hbr).trans c0; have x1 := (hb4.cell (p := ⟨b, off + k * 4 + 1, none⟩) hbr).trans c1; have x2 := (hb4.cell (p := ⟨b, off + k * 4 + 2, none⟩) hbr).trans c2; have x3 := (hb4.cell (p := ⟨b, off + k * 4 + 3, none⟩) hbr).trans c3; have y0 := (hb4.cell (p := ⟨w2.heap.size, 0, none⟩) h2r).trans m0; have y1 := (hb4.cell (p := ⟨w2.heap.size, 1, none⟩) h2r).trans m1; have y2 := (hb4.cell (p := ⟨w2.heap.size, 2, none⟩) h2r).trans m2; have y3 := (hb4.cell (p := ⟨w2.heap.size, 3, none⟩) h2r).trans m3; have HB4 := hide (hbel.drew.trans (hb4.mono hB)); clear hb4))
      go_wp2
      go_roundw
      case rel => exact ⟨k + 1, by omega, by go_num, unhide hnx, unhide HB4⟩
      case measure => simp [intOf]; omega
    · have he3 := hide (show progE P R V L = (er, (k : Int)) by
        rw [unhide he, unhide HC, coded_here hlt (by rw [← unhide HX, ← unhide HE]; exact h0), ← unhide HX, ← unhide HE])
      have h0' : (er != 0) = true := by rw [bne_iff_ne]; exact h0
      go_wp2_with fail
      go_region_held3 (fun w' => w'.cell? ⟨w.heap.size, 3, none⟩ = some (.slice (some ⟨b, off, none⟩) L.length cap) ∧ w'.cell? ⟨b, off + k * 4, none⟩ = some (.int .i64 x.op) ∧ w'.cell? ⟨b, off + k * 4 + 1, none⟩ = some (.int .i64 x.d) ∧ w'.cell? ⟨b, off + k * 4 + 2, none⟩ = some (.int .i64 x.a) ∧ w'.cell? ⟨b, off + k * 4 + 3, none⟩ = some (.int .i64 x.b) ∧ w'.cell? ⟨w2.heap.size, 0, none⟩ = some (.int .i64 R) ∧ w'.cell? ⟨w2.heap.size, 1, none⟩ = some (.int .i64 0) ∧ w'.cell? ⟨w2.heap.size, 2, none⟩ = some (.int .i64 V) ∧ w'.cell? ⟨w2.heap.size, 3, none⟩ = some (.int .i64 (L.length : Int))) (first | (simp [*]; done) | (refine ⟨?_, ?_, ?_, ?_, ?_, ?_, ?_, ?_, ?_⟩ <;> assumption))
        ((go_at_call 25; refine (unhide KC _ ?_ ?_).mono ?_; exact unhide HTr; exact hr0; rintro e w4 ⟨rfl, hb4⟩; have n3 := (hb4.cell (p := ⟨w.heap.size, 3, none⟩) hHr).trans s3; have x0 := (hb4.cell (p := ⟨b, off + k * 4, none⟩) hbr).trans c0; have x1 := (hb4.cell (p := ⟨b, off + k * 4 + 1, none⟩) hbr).trans c1; have x2 := (hb4.cell (p := ⟨b, off + k * 4 + 2, none⟩) hbr).trans c2; have x3 := (hb4.cell (p := ⟨b, off + k * 4 + 3, none⟩) hbr).trans c3; have y0 := (hb4.cell (p := ⟨w2.heap.size, 0, none⟩) h2r).trans m0; have y1 := (hb4.cell (p := ⟨w2.heap.size, 1, none⟩) h2r).trans m1; have y2 := (hb4.cell (p := ⟨w2.heap.size, 2, none⟩) h2r).trans m2; have y3 := (hb4.cell (p := ⟨w2.heap.size, 3, none⟩) h2r).trans m3; have HB4 := hide (hbel.drew.trans (hb4.mono hB)); clear hb4))
      go_wp2
      go_ret2
      exact ⟨ret2 (by rw [unhide he3]) (by rw [unhide he3]), (unhide HB3).trans ((unhide HB4).mono (by omega))⟩
end Go.Proofs.YtjhbioipdoklnaaDoor
