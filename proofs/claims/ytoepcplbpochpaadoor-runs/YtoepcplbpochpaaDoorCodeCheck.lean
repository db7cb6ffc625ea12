/-
  What code.Check answers of a list of instructions: the first error, and its place.
-/
import Derived.Test.YtoepcplbpochpaaDoorFields
namespace Go.Proofs.YtoepcplbpochpaaDoor
open Go.RowKit

set_option maxRecDepth 100000 in
set_option maxHeartbeats 2000000 in
theorem codeCheck_any (u : Bool) (r v s : Int) (L : List In4) (ao : Option Addr) (cap : Nat) (w : World) (hH : HeldIns w ao L) (h1 : 1 ≤ L.length) (hn : L.length ≤ 9223372036854775807) (hT : Tab w) (hw0 : 0 < w.heap.size) :
    Calls Tryd.prog 42 #[.slice ao L.length cap, .agg #[.bool u, .int .i64 r, .int .i64 s, .int .i64 v]] w fun e w' =>
      e = .returned (.tuple #[.int .i64 (codedE (!u) L r v s).1, .int .i64 (codedE (!u) L r v s).2]) ∧ Below w.heap.size w w' := by
  obtain ⟨b, off, rfl, hb, hL⟩ : ∃ b off, ao = some ⟨b, off, none⟩ ∧ b < w.heap.size ∧ LieI w b off L := by
    rcases hH with h | h
    · subst h; exact absurd h1 (by simp)
    · exact h
  have HL := hide hL
  have HT := hide hT
  clear hL hT hH
  obtain ⟨p, hp⟩ : ∃ p, (!u) = p := ⟨_, rfl⟩
  have KI := hide (fun (x : In4) w (hT : Tab w) (hw0 : 0 < w.heap.size) => insError_any u x r (L.length : Int) v s w hT hw0)
  rw [hp] at KI ⊢
  clear hp
  have hne : ((L.length : Int) == 0) = false := by rw [beq_eq_false_iff_ne]; omega
  go_enter Tryd.func42, Tryd.ntmps42
  go_wp2_with fail
  obtain ⟨w3, hw3⟩ : ∃ w3, w3 = w.alloc (.cells #[.bool u, .int .i64 r, .int .i64 s, .int .i64 v] 72) := ⟨_, rfl⟩
  rw [← hw3]
  have l0 : w3.cell? ⟨w.heap.size, 0, none⟩ = some (.bool u) := by rw [hw3, World.cell?_alloc_at (hn := rfl)]; rfl
  have l1 : w3.cell? ⟨w.heap.size, 1, none⟩ = some (.int .i64 r) := by rw [hw3, World.cell?_alloc_at (hn := rfl)]; rfl
  have l2 : w3.cell? ⟨w.heap.size, 2, none⟩ = some (.int .i64 s) := by rw [hw3, World.cell?_alloc_at (hn := rfl)]; rfl
  have l3 : w3.cell? ⟨w.heap.size, 3, none⟩ = some (.int .i64 v) := by rw [hw3, World.cell?_alloc_at (hn := rfl)]; rfl
  have HB3 : Hid (Below w.heap.size w w3) := by rw [hw3]; exact (Below.refl _ _).alloc (Nat.le_refl _) _
  have hz3 : w.heap.size < w3.heap.size := by rw [hw3]; simp
  clear hw3
  go_loopw [6] (fun i wr => ∃ k : Nat, k ≤ L.length ∧ i = .int .i64 k ∧ Hid (codedE p L r v s = codedFrom p L r v s k (L.length - k)) ∧ Below w3.heap.size w3 wr) (fun i _ => L.length - (intOf i).toNat)
  case atStart => exact ⟨0, Nat.zero_le _, rfl, rfl, Below.refl _ _⟩
  case round =>
    obtain ⟨k, hk, rfl, HC, hbel⟩ := hrel
    have hB := hbel.size
    have HBr : Hid (Below w.heap.size w wr) := (unhide HB3).trans (hbel.mono (by omega))
    by_cases hlt : k < L.length
    case neg =>
      obtain rfl : k = L.length := by omega
      obtain ⟨x, hx⟩ : ∃ x, x = inAt L (L.length - 1) := ⟨_, rfl⟩
      have hA := (unhide HL (L.length - 1) (by omega)).below (unhide HBr) hb
      rw [← hx] at hA
      have c0 : wr.cell? ⟨b, off + (L.length - 1) * 4, none⟩ = some (.int .i64 x.op) := hA.1
      obtain ⟨n, hnn⟩ : ∃ n, L.length = n + 1 := ⟨L.length - 1, by omega⟩
      have he2 := hide (show codedE p L r v s = if x.op ≠ 7 ∧ x.op ≠ 10 then (9, (L.length : Int) - 1) else (0, 0) by
        rw [unhide HC, Nat.sub_self, hx]; rfl)
      rw [show L.length - 1 = n by omega] at c0
      rw [hnn] at he2 hn hlt ⊢
      clear hA hx hnn HC l0 l1 l2 l3 hne
      by_cases h7 : x.op = 7
      · have he' := hide (show codedE p L r v s = (0, 0) by rw [unhide he2, if_neg (fun h => h.1 h7)])
        rw [h7] at c0
        clear h7 he2
        go_wp2
        go_ret2
        exact ⟨ret2 (by rw [unhide he']) (by rw [unhide he']), unhide HBr⟩
      by_cases h10 : x.op = 10
      · have he' := hide (show codedE p L r v s = (0, 0) by rw [unhide he2, if_neg (fun h => h.2 h10)])
        rw [h10] at c0
        clear h7 h10 he2
        go_wp2
        go_ret2
        exact ⟨ret2 (by rw [unhide he']) (by rw [unhide he']), unhide HBr⟩
      · have he' := hide (show codedE p L r v s = (9, (n : Int)) by rw [unhide he2, if_pos ⟨h7, h10⟩]; congr 1; omega)
        have h7' : (x.op != 7) = true := by rw [bne_iff_ne]; exact h7
        have h10' : (x.op != 10) = true := by rw [bne_iff_ne]; exact h10
        clear he2
        go_wp2
        go_ret2
        exact ⟨ret2 (by rw [unhide he']) (by rw [unhide he']), unhide HBr⟩
    obtain ⟨x, hx⟩ : ∃ x, x = inAt L k := ⟨_, rfl⟩
    have hA := (unhide HL k hlt).below (unhide HBr) hb
    rw [← hx] at hA
    obtain ⟨c0, c1, c2, c3⟩ := hA
    have m0 := (hbel.cell (p := ⟨w.heap.size, 0, none⟩) hz3).trans l0
    have m1 := (hbel.cell (p := ⟨w.heap.size, 1, none⟩) hz3).trans l1
    have m2 := (hbel.cell (p := ⟨w.heap.size, 2, none⟩) hz3).trans l2
    have m3 := (hbel.cell (p := ⟨w.heap.size, 3, none⟩) hz3).trans l3
    have KC := hide (unhide KI x)
    have HTr := hide ((unhide HT).below (unhide HBr) hw0)
    have hr0 : 0 < wr.heap.size := by omega
    have hbr : b < wr.heap.size := by omega
    have h2r : w.heap.size < wr.heap.size := by omega
    obtain ⟨er, her⟩ : ∃ er, er = insE p x r (L.length : Int) v s := ⟨_, rfl⟩
    rw [← her] at KC
    have HX := hide hx
    have HE := hide her
    clear hx her l0 l1 l2 l3 KI
    by_cases h0 : er = 0
    · subst h0
      have hnx := hide (show codedE p L r v s = codedFrom p L r v s (k + 1) (L.length - (k + 1)) by
        rw [unhide HC]; exact coded_on hlt (by rw [← unhide HX]; exact (unhide HE).symm))
      go_wp2_with fail
      go_region_held3 (fun w' => w'.cell? ⟨b, off + k * 4, none⟩ = some (.int .i64 x.op) ∧ w'.cell? ⟨b, off + k * 4 + 1, none⟩ = some (.int .i64 x.d) ∧ w'.cell? ⟨b, off + k * 4 + 2, none⟩ = some (.int .i64 x.a) ∧ w'.cell? ⟨b, off + k * 4 + 3, none⟩ = some (.int .i64 x.b) ∧ w'.cell? ⟨w.heap.size, 0, none⟩ = some (.bool u) ∧ w'.cell? ⟨w.heap.size, 1, none⟩ = some (.int .i64 r) ∧ w'.cell? ⟨w.heap.size, 2, none⟩ = some (.int .i64 s) ∧ w'.cell? ⟨w.heap.size, 3, none⟩ = some (.int .i64 v)) (first | (simp [*]; done) | (refine ⟨?_, ?_, ?_, ?_, ?_, ?_, ?_, ?_⟩ <;> assumption))
        ((go_at_call 80; refine (unhide KC _ ?_ ?_).mono ?_; exact unhide HTr; exact hr0; rintro e w4 ⟨rfl, hb4⟩; have x0 := (hb4.cell (p := ⟨b, off + k * 4, none⟩) hbr).trans c0; have x1 := (hb4.cell (p := ⟨b, off + k * 4 + 1, none⟩) hbr).trans c1; have x2 := (hb4.cell (p := ⟨b, off + k * 4 + 2, none⟩) hbr).trans c2; have x3 := (hb4.cell (p := ⟨b, off + k * 4 + 3, none⟩) hbr).trans c3; have y0 := (hb4.cell (p := ⟨w.heap.size, 0, none⟩) h2r).trans m0; have y1 := (hb4.cell (p := ⟨w.heap.size, 1, none⟩) h2r).trans m1; have y2 := (hb4.cell (p := ⟨w.heap.size, 2, none⟩) h2r).trans m2; have y3 := (hb4.cell (p := ⟨w.heap.size, 3, none⟩) h2r).trans m3; have HB4 := hide (hbel.drew.trans (hb4.mono hB)); clear hb4))
      go_wp2
      go_roundw
      case rel => exact ⟨k + 1, by omega, by go_num, unhide hnx, unhide HB4⟩
      case measure => simp [intOf]; omega
    · have he3 := hide (show codedE p L r v s = (er, (k : Int)) by
        rw [unhide HC, coded_here hlt (by rw [← unhide HX, ← unhide HE]; exact h0), ← unhide HX, ← unhide HE])
      have h0' : (er != 0) = true := by rw [bne_iff_ne]; exact h0
      go_wp2_with fail
      go_region_held3 (fun w' => w'.cell? ⟨b, off + k * 4, none⟩ = some (.int .i64 x.op) ∧ w'.cell? ⟨b, off + k * 4 + 1, none⟩ = some (.int .i64 x.d) ∧ w'.cell? ⟨b, off + k * 4 + 2, none⟩ = some (.int .i64 x.a) ∧ w'.cell? ⟨b, off + k * 4 + 3, none⟩ = some (.int .i64 x.b) ∧ w'.cell? ⟨w.heap.size, 0, none⟩ = some (.bool u) ∧ w'.cell? ⟨w.heap.size, 1, none⟩ = some (.int .i64 r) ∧ w'.cell? ⟨w.heap.size, 2, none⟩ = some (.int .i64 s) ∧ w'.cell? ⟨w.heap.size, 3, none⟩ = some (.int .i64 v)) (first | (simp [*]; done) | (refine ⟨?_, ?_, ?_, ?_, ?_, ?_, ?_, ?_⟩ <;> assumption))
        ((go_at_call 80; refine (unhide KC _ ?_ ?_).mono ?_; exact unhide HTr; exact hr0; rintro e w4 ⟨rfl, hb4⟩; have x0 := (hb4.cell (p := ⟨b, off + k * 4, none⟩) hbr).trans c0; have x1 := (hb4.cell (p := ⟨b, off + k * 4 + 1, none⟩) hbr).trans c1; have x2 := (hb4.cell (p := ⟨b, off + k * 4 + 2, none⟩) hbr).trans c2; have x3 := (hb4.cell (p := ⟨b, off + k * 4 + 3, none⟩) hbr).trans c3; have y0 := (hb4.cell (p := ⟨w.heap.size, 0, none⟩) h2r).trans m0; have y1 := (hb4.cell (p := ⟨w.heap.size, 1, none⟩) h2r).trans m1; have y2 := (hb4.cell (p := ⟨w.heap.size, 2, none⟩) h2r).trans m2; have y3 := (hb4.cell (p := ⟨w.heap.size, 3, none⟩) h2r).trans m3; have HB4 := hide (hbel.drew.trans (hb4.mono hB)); clear hb4))
      go_wp2
      go_ret2
      exact ⟨ret2 (by rw [unhide he3]) (by rw [unhide he3]), (unhide HB3).trans ((unhide HB4).mono (by omega))⟩
end Go.Proofs.YtoepcplbpochpaaDoor
