/-
  Which registers collide: (*lodge.collisions).add, lodge.firstFree, lodge.countColours.
-/
import Derived.Test.YtoepcplbpochpaaDoorHomes
import Derived.Test.YtoepcplbpochpaaDoorFindLive
namespace Go.Proofs.YtoepcplbpochpaaDoor
open Go.RowKit

theorem gcell {w : World} {B T n : Nat} {f : Nat → Nat → Bool} (h : Rowd w B T n (gridV f)) {i r : Nat} (hr : r < 12) (ho : i * 12 + r < n) : w.cell? ⟨B, i * 12 + r, none⟩ = some (.bool (f i r)) := by
  rw [h.cell ho]; unfold gridV; rw [show (i * 12 + r) / 12 = i by omega, show (i * 12 + r) % 12 = r by omega]
theorem gset {w : World} {B T n : Nat} {f g : Nat → Nat → Bool} (h : Rowd w B T n (gridV f)) {i r : Nat} (hr : r < 12) {b : Bool} (hg : ∀ j q, q < 12 → g j q = if j = i ∧ q = r then b else f j q) :
    Rowd (w.setCell ⟨B, i * 12 + r, none⟩ (.bool b)) B T n (gridV g) := by
  refine (h.set (i * 12 + r) (.bool b)).congr (fun o ho => ?_)
  unfold gridV
  rw [hg (o / 12) (o % 12) (by omega)]
  by_cases e : o = i * 12 + r
  · rw [if_pos e, if_pos ⟨by omega, by omega⟩]
  · rw [if_neg e, if_neg (fun h => e (by omega))]

/-- A set of registers; a list of twelve numbers. -/
def setV (s : Nat → Bool) : Nat → Value := fun q => .bool (s q)
def numV (c : Nat → Nat) : Nat → Value := fun q => .int .i64 (c q)

/-- r collides with the first k of a set. -/
def hitTo (r : Nat) (s : Nat → Bool) (h : Nat → Nat → Bool) (k : Nat) : Nat → Nat → Bool := fun a b => h a b || (a == r && (decide (b < k) && s b)) || (b == r && (decide (a < k) && s a))
theorem hitTo_zero (r : Nat) (s : Nat → Bool) (h : Nat → Nat → Bool) : hitTo r s h 0 = h := by
  funext a b; unfold hitTo; simp
theorem hitTo_skip {r : Nat} {s : Nat → Bool} (h : Nat → Nat → Bool) {k : Nat} (hs : s k = false) : hitTo r s h (k + 1) = hitTo r s h k := by
  have key : ∀ a, (decide (a < k + 1) && s a) = (decide (a < k) && s a) := fun a => by
    by_cases e : a = k
    · subst e; rw [hs]; simp
    · congr 1; exact decide_eq_decide.2 (by omega)
  funext a b; unfold hitTo; rw [key, key]
theorem hitTo_step {r : Nat} {s : Nat → Bool} (h : Nat → Nat → Bool) {k : Nat} (hs : s k = true) (a b : Nat) : hitTo r s h (k + 1) a b = if a = k ∧ b = r then true else if a = r ∧ b = k then true else hitTo r s h k a b := by
  have key : ∀ a, (decide (a < k + 1) && s a) = (decide (a < k) && s a || a == k) := fun a => by
    by_cases e : a = k
    · subst e; rw [hs]; simp
    · rw [show (a == k) = false by rw [beq_eq_false_iff_ne]; exact e, Bool.or_false]; congr 1; exact decide_eq_decide.2 (by omega)
  unfold hitTo
  rw [key, key]
  by_cases e1 : a = k ∧ b = r
  · rw [if_pos e1]; obtain ⟨rfl, rfl⟩ := e1; simp
  rw [if_neg e1]
  by_cases e2 : a = r ∧ b = k
  · rw [if_pos e2]; obtain ⟨rfl, rfl⟩ := e2; simp
  rw [if_neg e2]
  have f1 : (a == r && (decide (b < k) && s b || b == k)) = (a == r && (decide (b < k) && s b)) := by
    by_cases e : a = r
    · rw [show (b == k) = false by rw [beq_eq_false_iff_ne]; exact fun h => e2 ⟨e, h⟩, Bool.or_false]
    · rw [show (a == r) = false by rw [beq_eq_false_iff_ne]; exact e]; rfl
  have f2 : (b == r && (decide (a < k) && s a || a == k)) = (b == r && (decide (a < k) && s a)) := by
    by_cases e : b = r
    · rw [show (a == k) = false by rw [beq_eq_false_iff_ne]; exact fun h => e1 ⟨h, e⟩, Bool.or_false]
    · rw [show (b == r) = false by rw [beq_eq_false_iff_ne]; exact e]; rfl
  rw [f1, f2]
theorem hitTo_all (r : Nat) (s : Nat → Bool) (h : Nat → Nat → Bool) {a b : Nat} (ha : a < 12) (hb : b < 12) : hitTo r s h 12 a b = hitAdd r s h a b := by
  have key : ∀ a : Nat, (a == r) = ((a : Int) == (r : Int)) := fun a => by
    by_cases e : a = r
    · subst e; simp
    · rw [show (a == r) = false by rw [beq_eq_false_iff_ne]; exact e, show ((a : Int) == (r : Int)) = false by rw [beq_eq_false_iff_ne]; omega]
  unfold hitTo hitAdd
  rw [decide_eq_true hb, decide_eq_true ha, Bool.true_and, Bool.true_and, key, key]

/-- A row that was boxed. -/
theorem box_row (w : World) (T n : Nat) (c : Nat → Value) : ∃ w2, w2 = w.alloc (.cells (rowA n c) T) ∧ Hid (Rowd w2 w.heap.size T n c) ∧ Hid (Below w.heap.size w w2) ∧ w.heap.size < w2.heap.size :=
  ⟨_, rfl, rowd_alloc w T n c, (Below.refl _ _).alloc (Nat.le_refl _) _, by simp⟩

set_option maxRecDepth 100000 in
set_option maxHeartbeats 4000000 in
theorem add_any (B : Nat) (h : Nat → Nat → Bool) (r : Nat) (hr : r < 12) (s : Nat → Bool) (w : World) (hB : Rowd w B 184 144 (gridV h)) :
    Calls Tryd.prog 137 #[.pointer (some ⟨B, 0, none⟩), .int .i64 r, .agg (rowA 12 (setV s))] w fun e w' => e = .returned (.tuple #[]) ∧ Rowd w' B 184 144 (gridV (hitAdd r s h)) ∧ Keep (fun k => k = B) w w' := by
  have HB := hide hB
  have hne : w.heap.size ≠ B := by have := hB.lt; omega
  have hri : (r : Int) < 12 := by omega
  clear hB
  obtain ⟨w1, hw1, HC1, HL1, hz1⟩ := box_row w 105 12 (setV s)
  have HW := hide hw1
  have HB1 : Hid (Rowd w1 B 184 144 (gridV (hitTo r s h 0))) := by rw [hitTo_zero]; exact (unhide HB).below (unhide HL1)
  have HK1 : Hid (Keep (fun k => k = B) w w1) := Keep.of_below (unhide HL1) _
  clear hw1 HL1 HB
  go_enter Tryd.func137, Tryd.ntmps137
  go_wp2_with fail
  rw [← unhide HW]
  go_wp2_with fail
  go_loopw [6] (fun i' wr => ∃ k : Nat, k ≤ 12 ∧ i' = .int .i64 k ∧ Hid (Rowd wr B 184 144 (gridV (hitTo r s h k))) ∧ Hid (Rowd wr w.heap.size 105 12 (setV s)) ∧ Hid (Keep (fun k => k = B) w wr)) (fun i' _ => 12 - (intOf i').toNat)
  case atStart => exact ⟨0, by omega, rfl, unhide HB1, unhide HC1, unhide HK1⟩
  case round =>
    obtain ⟨k, hk, rfl, HB, HC, HK⟩ := hrel
    by_cases hlt : k < 12
    case neg =>
      obtain rfl : k = 12 := by omega
      go_wp2_with fail
      go_returns
      exact ⟨rfl, (unhide HB).congr (fun o ho => by unfold gridV; rw [hitTo_all r s h (by omega) (by omega)]), unhide HK⟩
    have hki : (k : Int) < 12 := by omega
    have c := (unhide HC).cell hlt
    unfold setV at c
    obtain ⟨t, ht⟩ : ∃ t, t = s k := ⟨_, rfl⟩
    rw [← ht] at c
    have HT := hide ht
    clear ht
    cases t
    · go_wp2_with fail
      go_roundw
      case rel => exact ⟨k + 1, by omega, by go_num, by rw [hitTo_skip h (unhide HT).symm]; exact unhide HB, unhide HC, unhide HK⟩
      case measure => simp [intOf]; omega
    · have hf : ∀ o, wr.frozen? ⟨B, o, none⟩ = false := (unhide HB).free
      have c1 := gcell (unhide HB) (i := r) (r := k) hlt (by omega)
      have c2 := gcell (unhide HB) (i := k) (r := r) hr (by omega)
      obtain ⟨o1, ho1⟩ : ∃ v, v = Value.bool (hitTo r s h k r k) := ⟨_, rfl⟩
      obtain ⟨o2, ho2⟩ : ∃ v, v = Value.bool (hitTo r s h k k r) := ⟨_, rfl⟩
      rw [← ho1] at c1
      rw [← ho2] at c2
      have HX := hide (gset (g := fun a b => if a = r ∧ b = k then true else hitTo r s h k a b) (unhide HB) (i := r) (r := k) hlt (b := true) (fun _ _ _ => rfl))
      have hf2 : ∀ o, (wr.setCell ⟨B, r * 12 + k, none⟩ (.bool true)).frozen? ⟨B, o, none⟩ = false := (unhide HX).free
      obtain ⟨o3, ho3⟩ : ∃ v, (wr.setCell ⟨B, r * 12 + k, none⟩ (.bool true)).cell? ⟨B, k * 12 + r, none⟩ = some v := ⟨_, gcell (unhide HX) (i := k) (r := r) hr (by omega)⟩
      clear ho1 ho2
      go_wp2_with fail
      go_roundw
      case rel =>
        refine ⟨k + 1, by omega, by go_num, ?_, ?_, keep_set (keep_set (unhide HK) _ _) _ _⟩
        · exact gset (unhide HX) (i := k) (r := r) hr (fun a b _ => hitTo_step h (unhide HT).symm a b)
        · exact ((unhide HC).of_block (heap_setCell_other _ _ _ _ hne)).of_block (heap_setCell_other _ _ _ _ hne)
      case measure => simp [intOf]; omega
end Go.Proofs.YtoepcplbpochpaaDoor
