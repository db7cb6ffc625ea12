/-
  Has a unit a table that may be? What mach.isTable answers.
-/
import Derived.Test.YtoepcplbpochpabDoorPart13
import Derived.Test.YtoepcplbpochpabDoorPart9
import Derived.Test.YtoepcplbpochpabDoorPart12
import Derived.Test.YtoepcplbpochpabDoorPart1
import Derived.Test.YtoepcplbpochpabDoorPart7

namespace Go.Proofs.YtoepcplbpochpabDoor
open Go.RowKit

def TabOk (T : ByteArray) (K S V : Int) (n : Nat) : Prop := ∃ R, TabS T R ∧ TabIn K S V n R
noncomputable def tabB (T : ByteArray) (K S V : Int) (n : Nat) : Bool := @ite _ (TabOk T K S V n) (Classical.propDecidable _) true false
theorem tabB_yes {T : ByteArray} {K S V : Int} {n : Nat} (h : TabOk T K S V n) : tabB T K S V n = true := @if_pos _ (Classical.propDecidable _) h _ _ _
theorem tabB_no {T : ByteArray} {K S V : Int} {n : Nat} (h : ¬ TabOk T K S V n) : tabB T K S V n = false := @if_neg _ (Classical.propDecidable _) h _ _ _
theorem tabB_true {T : ByteArray} {K S V : Int} {n : Nat} (h : tabB T K S V n = true) : TabOk T K S V n := by
  rcases Classical.em (TabOk T K S V n) with hy | hn
  · exact hy
  · rw [tabB_no hn] at h; cases h

theorem decode_yes {s : ByteArray} {R : List Rg} (hs : s.size ≤ maxLen) (ht : TabS s R) (w : World) :
    Calls Tryd.prog 27 #[.string s] w fun e w' => ∃ v, e = .returned (.tuple #[v, .int .i64 0]) ∧ w'.ownsRow w.heap.size 109 5 v R.length (cellsOf R) ∧ Below w.heap.size w w' :=
  (decode_any s w hs).mono fun e w' h => by
    rcases h with ⟨hb, ⟨R', v, ht', he, ho⟩ | ⟨hn, _⟩⟩
    · obtain rfl := tab_uniq ht ht'; exact ⟨v, he, ho, hb⟩
    · exact absurd ht (hn R)
theorem decode_no {s : ByteArray} (hs : s.size ≤ maxLen) (ht : ∀ R, ¬ TabS s R) (w : World) :
    Calls Tryd.prog 27 #[.string s] w fun e w' => e = .returned (.tuple #[.slice none 0 0, .int .i64 14]) ∧ Below w.heap.size w w' :=
  (decode_any s w hs).mono fun e w' h => by
    rcases h with ⟨hb, ⟨R', v, ht', he, ho⟩ | ⟨hn, he⟩⟩
    · exact absurd ht' (ht R')
    · exact ⟨he, hb⟩

/-- A unit's six cells. -/
def At6 (w : World) (g : Nat) (K S P V : Int) (sl : Value) (T : ByteArray) : Prop :=
  w.cell? ⟨g, 0, none⟩ = some (.int .i64 K) ∧ w.cell? ⟨g, 1, none⟩ = some (.int .i64 S) ∧ w.cell? ⟨g, 2, none⟩ = some (.int .i64 P) ∧ w.cell? ⟨g, 3, none⟩ = some (.int .i64 V) ∧ w.cell? ⟨g, 4, none⟩ = some sl ∧ w.cell? ⟨g, 5, none⟩ = some (.string T)
theorem At6.below {w w' : World} {B g : Nat} {K S P V : Int} {sl : Value} {T : ByteArray} (h : At6 w g K S P V sl T) (hb : Below B w w') (hg : g < B) : At6 w' g K S P V sl T :=
  ⟨(hb.cell hg).trans h.1, (hb.cell hg).trans h.2.1, (hb.cell hg).trans h.2.2.1, (hb.cell hg).trans h.2.2.2.1, (hb.cell hg).trans h.2.2.2.2.1, (hb.cell hg).trans h.2.2.2.2.2⟩
theorem at6_new (w : World) (K S P V : Int) (sl : Value) (T : ByteArray) : At6 (w.alloc (.cells #[.int .i64 K, .int .i64 S, .int .i64 P, .int .i64 V, sl, .string T] 33)) w.heap.size K S P V sl T := by
  have q : ∀ i, (w.alloc (.cells #[.int .i64 K, .int .i64 S, .int .i64 P, .int .i64 V, sl, .string T] 33)).cell? ⟨w.heap.size, i, none⟩ = #[Value.int .i64 K, .int .i64 S, .int .i64 P, .int .i64 V, sl, .string T][i]? := fun i => World.cell?_alloc_at (hn := rfl) ..
  exact ⟨(q 0).trans rfl, (q 1).trans rfl, (q 2).trans rfl, (q 3).trans rfl, (q 4).trans rfl, (q 5).trans rfl⟩
/-- The world behind the boxing of a unit. -/
theorem unit_open (w : World) (K S P V : Int) (sl : Value) (T : ByteArray) : ∃ w1, w1 = w.alloc (.cells #[.int .i64 K, .int .i64 S, .int .i64 P, .int .i64 V, sl, .string T] 33) ∧ At6 w1 w.heap.size K S P V sl T ∧ Hid (Below w.heap.size w w1) ∧ w.heap.size < w1.heap.size :=
  ⟨_, rfl, at6_new _ _ _ _ _ _ _, (Below.refl _ _).alloc (Nat.le_refl _) _, by simp⟩

set_option maxRecDepth 100000 in
set_option maxHeartbeats 2000000 in
theorem isTableU_any (K S P V : Int) (n : Nat) (T : ByteArray) (ao : Option Addr) (cap : Nat) (w : World) (hs : T.size ≤ maxLen) :
    Calls Tryd.prog 42 #[.agg #[.int .i64 K, .int .i64 S, .int .i64 P, .int .i64 V, .slice ao n cap, .string T]] w fun e w' =>
      e = .returned (.bool (tabB T K S V n)) ∧ Below w.heap.size w w' := by
  by_cases ht : ∃ R, TabS T R
  case neg =>
    have HF := hide (tabB_no (K := K) (S := S) (V := V) (n := n) (fun h => ht (h.elim fun R h => ⟨R, h.1⟩)))
    have KD := hide (fun w => decode_no hs (fun R h => ht ⟨R, h⟩) w)
    clear ht
    go_enter Tryd.func42, Tryd.ntmps42
    go_wp2_with fail
    obtain ⟨w1, hw1, ⟨p0, p1, p2, p3, p4, p5⟩, HB1, hz1⟩ := unit_open w K S P V (.slice ao n cap) T
    rw [← hw1]
    clear hw1
    refine (unhide KD w1).mono ?_
    rintro e w2 ⟨rfl, hb2⟩
    have HB2 : Hid (Below w.heap.size w w2) := (unhide HB1).trans (hb2.mono (Nat.le_of_lt hz1))
    clear hb2
    go_wp2
    go_ret
    exact ⟨ret_bool (unhide HF).symm, unhide HB2⟩
  obtain ⟨R, ht⟩ := ht
  have KD := hide (fun w => decode_yes hs ht w)
  have HT := hide ht
  have KI := hide (fun (r : Rg) w => isRangeU_any K S P V n T r ao cap w)
  clear ht
  go_enter Tryd.func42, Tryd.ntmps42
  go_wp2_with fail
  obtain ⟨w1, hw1, h6, HB1, hz1⟩ := unit_open w K S P V (.slice ao n cap) T
  have p5 := h6.2.2.2.2.2
  have H6 := hide h6
  rw [← hw1]
  clear hw1 h6
  refine (unhide KD w1).mono ?_
  rintro e w2 ⟨v, rfl, ho, hb2⟩
  have HB2 : Hid (Below w.heap.size w w2) := (unhide HB1).trans (hb2.mono (Nat.le_of_lt hz1))
  have H62 := hide ((unhide H6).below hb2 hz1)
  have hz2 : w.heap.size < w2.heap.size := Nat.lt_of_lt_of_le hz1 hb2.size
  obtain ⟨ao', cap', rfl, hH, hlen, _, _⟩ := own_held ho
  have HH := hide hH
  unfold maxLen at hlen
  clear hb2 ho hH p5 H6 HB1
  go_wp2_with fail
  go_loopw [5] (fun i wr => ∃ k : Nat, k ≤ R.length ∧ i = .int .i64 k ∧ Hid (∀ j, j < k → RgIn K S V n (rg R j)) ∧ Below w2.heap.size w2 wr) (fun i _ => R.length - (intOf i).toNat)
  case atStart => exact ⟨0, Nat.zero_le _, rfl, fun j hj => by omega, Below.refl _ _⟩
  case round =>
    obtain ⟨k, hk, rfl, HC, hbel⟩ := hrel
    have hB := hbel.size
    have HBr : Hid (Below w.heap.size w wr) := (unhide HB2).trans (hbel.mono (by omega))
    by_cases hlt : k < R.length
    case neg =>
      obtain rfl : k = R.length := by omega
      have HF := hide (tabB_yes (K := K) (S := S) (V := V) (n := n) ⟨R, unhide HT, unhide HC⟩)
      clear HC
      go_wp2
      go_ret
      exact ⟨ret_bool (unhide HF).symm, unhide HBr⟩
    obtain ⟨b, off, rfl, hb, hL⟩ : ∃ b off, ao' = some ⟨b, off, none⟩ ∧ b < w2.heap.size ∧ Lie w2 b off R := by
      rcases unhide HH with h | h
      · subst h; exact absurd hlt (by simp)
      · exact h
    obtain ⟨r, hr⟩ : ∃ r, r = rg R k := ⟨_, rfl⟩
    have hA := (hL k hlt).below hbel hb
    rw [← hr] at hA
    obtain ⟨c0, c1, c2, c3, c4⟩ := hA
    obtain ⟨m0, m1, m2, m3, m4, m5⟩ := (unhide H62).below hbel hz2
    have KC := hide (unhide KI r)
    have hbr : b < wr.heap.size := by omega
    have h2r : w.heap.size < wr.heap.size := by omega
    have HR := hide hr
    clear hr hL KI
    by_cases h0 : RgIn K S V n r
    · have hnx : Hid (∀ j, j < k + 1 → RgIn K S V n (rg R j)) := fun j hj => by
        by_cases e : j = k
        · subst e; rw [← unhide HR]; exact h0
        · exact unhide HC j (by omega)
      rw [rgIn_yes h0] at KC
      clear h0
      go_wp2_with fail
      go_region_held3 (fun w' => w'.cell? ⟨b, off + k * 5, none⟩ = some (.int .i64 r.v) ∧ w'.cell? ⟨b, off + k * 5 + 1, none⟩ = some (.int .i64 r.f) ∧ w'.cell? ⟨b, off + k * 5 + 2, none⟩ = some (.int .i64 r.t) ∧ w'.cell? ⟨b, off + k * 5 + 3, none⟩ = some (.int .i64 r.k) ∧ w'.cell? ⟨b, off + k * 5 + 4, none⟩ = some (.int .i64 r.a) ∧ w'.cell? ⟨w.heap.size, 0, none⟩ = some (.int .i64 K) ∧ w'.cell? ⟨w.heap.size, 1, none⟩ = some (.int .i64 S) ∧ w'.cell? ⟨w.heap.size, 2, none⟩ = some (.int .i64 P) ∧ w'.cell? ⟨w.heap.size, 3, none⟩ = some (.int .i64 V) ∧ w'.cell? ⟨w.heap.size, 4, none⟩ = some (.slice ao n cap) ∧ w'.cell? ⟨w.heap.size, 5, none⟩ = some (.string T)) (first | (simp [*]; done) | (refine ⟨?_, ?_, ?_, ?_, ?_, ?_, ?_, ?_, ?_, ?_, ?_⟩ <;> assumption))
        ((go_at_call 63; refine (unhide KC _).mono ?_; rintro e w4 ⟨rfl, hb4⟩; have x0 := (hb4.cell (p := ⟨b, off + k * 5, none⟩) hbr).trans c0; have x1 := (hb4.cell (p := ⟨b, off + k * 5 + 1, none⟩) hbr).trans c1; have x2 := (hb4.cell (p := ⟨b, off + k * 5 + 2, none⟩) hbr).trans c2; have x3 := (hb4.cell (p := ⟨b, off + k * 5 + 3, none⟩) hbr).trans c3; have x4 := (hb4.cell (p := ⟨b, off + k * 5 + 4, none⟩) hbr).trans c4; have y0 := (hb4.cell (p := ⟨w.heap.size, 0, none⟩) h2r).trans m0; have y1 := (hb4.cell (p := ⟨w.heap.size, 1, none⟩) h2r).trans m1; have y2 := (hb4.cell (p := ⟨w.heap.size, 2, none⟩) h2r).trans m2; have y3 := (hb4.cell (p := ⟨w.heap.size, 3, none⟩) h2r).trans m3; have y4 := (hb4.cell (p := ⟨w.heap.size, 4, none⟩) h2r).trans m4; have y5 := (hb4.cell (p := ⟨w.heap.size, 5, none⟩) h2r).trans m5; have HB4 := hide (hbel.drew.trans (hb4.mono hB)); clear hb4))
      go_wp2
      go_roundw
      case rel => exact ⟨k + 1, by omega, by go_num, unhide hnx, unhide HB4⟩
      case measure => simp [intOf]; omega
    · have HF := hide (tabB_no (T := T) (K := K) (S := S) (V := V) (n := n) (fun h => by
        obtain ⟨R', h1, h2⟩ := h
        obtain rfl := tab_uniq (unhide HT) h1
        exact h0 (by rw [unhide HR]; exact h2 k hlt)))
      rw [rgIn_no h0] at KC
      clear h0
      go_wp2_with fail
      go_region_held3 (fun w' => w'.cell? ⟨b, off + k * 5, none⟩ = some (.int .i64 r.v) ∧ w'.cell? ⟨b, off + k * 5 + 1, none⟩ = some (.int .i64 r.f) ∧ w'.cell? ⟨b, off + k * 5 + 2, none⟩ = some (.int .i64 r.t) ∧ w'.cell? ⟨b, off + k * 5 + 3, none⟩ = some (.int .i64 r.k) ∧ w'.cell? ⟨b, off + k * 5 + 4, none⟩ = some (.int .i64 r.a) ∧ w'.cell? ⟨w.heap.size, 0, none⟩ = some (.int .i64 K) ∧ w'.cell? ⟨w.heap.size, 1, none⟩ = some (.int .i64 S) ∧ w'.cell? ⟨w.heap.size, 2, none⟩ = some (.int .i64 P) ∧ w'.cell? ⟨w.heap.size, 3, none⟩ = some (.int .i64 V) ∧ w'.cell? ⟨w.heap.size, 4, none⟩ = some (.slice ao n cap) ∧ w'.cell? ⟨w.heap.size, 5, none⟩ = some (.string T)) (first | (simp [*]; done) | (refine ⟨?_, ?_, ?_, ?_, ?_, ?_, ?_, ?_, ?_, ?_, ?_⟩ <;> assumption))
        ((go_at_call 63; refine (unhide KC _).mono ?_; rintro e w4 ⟨rfl, hb4⟩; have x0 := (hb4.cell (p := ⟨b, off + k * 5, none⟩) hbr).trans c0; have x1 := (hb4.cell (p := ⟨b, off + k * 5 + 1, none⟩) hbr).trans c1; have x2 := (hb4.cell (p := ⟨b, off + k * 5 + 2, none⟩) hbr).trans c2; have x3 := (hb4.cell (p := ⟨b, off + k * 5 + 3, none⟩) hbr).trans c3; have x4 := (hb4.cell (p := ⟨b, off + k * 5 + 4, none⟩) hbr).trans c4; have y0 := (hb4.cell (p := ⟨w.heap.size, 0, none⟩) h2r).trans m0; have y1 := (hb4.cell (p := ⟨w.heap.size, 1, none⟩) h2r).trans m1; have y2 := (hb4.cell (p := ⟨w.heap.size, 2, none⟩) h2r).trans m2; have y3 := (hb4.cell (p := ⟨w.heap.size, 3, none⟩) h2r).trans m3; have y4 := (hb4.cell (p := ⟨w.heap.size, 4, none⟩) h2r).trans m4; have y5 := (hb4.cell (p := ⟨w.heap.size, 5, none⟩) h2r).trans m5; have HB4 := hide (hbel.drew.trans (hb4.mono hB)); clear hb4))
      go_wp2
      go_ret
      exact ⟨ret_bool (unhide HF).symm, (unhide HB2).trans ((unhide HB4).mono (by omega))⟩
end Go.Proofs.YtoepcplbpochpabDoor

/-
  What mach.Check answers of a unit: the error and the place.
-/
namespace Go.Proofs.YtoepcplbpochpabDoor
open Go.RowKit

/-- The error of a unit, and its place. -/
noncomputable def unitE (K S P V : Int) (L : List In4) (T : ByteArray) : Int × Int :=
  @ite _ (UnitBad K S P V L.length) (decUnit K S P V L.length) (1, 0)
    (if (codedE false L K 0 S).1 ≠ 0 then codedE false L K 0 S else if tabB T K S V L.length = true then (0, 0) else (10, 0))
theorem unitE_bad {K S P V : Int} {L : List In4} {T : ByteArray} (h : UnitBad K S P V L.length) : unitE K S P V L T = (1, 0) := by unfold unitE; exact @if_pos _ (decUnit _ _ _ _ _) h _ _ _
theorem unitE_good {K S P V : Int} {L : List In4} {T : ByteArray} (h : ¬ UnitBad K S P V L.length) : unitE K S P V L T = if (codedE false L K 0 S).1 ≠ 0 then codedE false L K 0 S else if tabB T K S V L.length = true then (0, 0) else (10, 0) := by
  unfold unitE; exact @if_neg _ (decUnit _ _ _ _ _) h _ _ _

set_option maxRecDepth 100000 in
set_option maxHeartbeats 2000000 in
theorem machCheck_any (K S P V : Int) (L : List In4) (T : ByteArray) (ao : Option Addr) (cap : Nat) (w : World) (hH : HeldIns w ao L) (hn : L.length ≤ 9223372036854775807) (hs : T.size ≤ maxLen) (hT : Tab w) (hw0 : 0 < w.heap.size) :
    Calls Tryd.prog 23 #[.agg #[.int .i64 K, .int .i64 S, .int .i64 P, .int .i64 V, .slice ao L.length cap, .string T]] w fun e w' =>
      e = .returned (.tuple #[.int .i64 (unitE K S P V L T).1, .int .i64 (unitE K S P V L T).2]) ∧ Below w.heap.size w w' := by
  have KS := hide (fun w => isSizeU_any K S P V L T ao cap w hn)
  by_cases hb : UnitBad K S P V L.length
  · have he := hide (unitE_bad (T := T) hb)
    rw [unitB_bad hb] at KS
    clear hb hT hs
    go_enter Tryd.func23, Tryd.ntmps23
    go_wp2_with (go_at_call 41; refine (unhide KS _).mono ?_; rintro e w2 ⟨rfl, hb2⟩)
    go_ret2
    exact ⟨ret2 (by rw [unhide he]) (by rw [unhide he]), ((Below.refl _ _).alloc (Nat.le_refl _) _).trans (hb2.mono (by simp))⟩
  have he := hide (unitE_good (T := T) hb)
  rw [unitB_good hb] at KS
  have g8 : 1 ≤ L.length := (unit_good hb).2.2.2.2.2.2.2.2.2.1
  have KC := hide (fun w (hH : HeldIns w ao L) (hT : Tab w) (hw0 : 0 < w.heap.size) => codeCheck_any true K 0 S L ao cap w hH g8 hn hT hw0)
  have KT := hide (fun w => isTableU_any K S P V L.length T ao cap w hs)
  rw [show (!true) = false from rfl] at KC
  obtain ⟨e1, he1⟩ : ∃ e, e = (codedE false L K 0 S).1 := ⟨_, rfl⟩
  obtain ⟨e2, he2⟩ : ∃ e, e = (codedE false L K 0 S).2 := ⟨_, rfl⟩
  obtain ⟨tb, htb⟩ : ∃ b, b = tabB T K S V L.length := ⟨_, rfl⟩
  have he' := hide (show unitE K S P V L T = if e1 ≠ 0 then (e1, e2) else if tb = true then (0, 0) else (10, 0) by rw [unhide he, he1, he2, htb])
  rw [← he1, ← he2] at KC
  rw [← htb] at KT
  have HH := hide hH
  have HT := hide hT
  clear hb hH hT he g8 he1 he2 htb hs
  go_enter Tryd.func23, Tryd.ntmps23
  go_wp2_with fail
  obtain ⟨w1, hw1, h6, HB1, hz⟩ := unit_open w K S P V (.slice ao L.length cap) T
  rw [← hw1]
  clear hw1
  refine (unhide KS w1).mono ?_
  rintro e w2 ⟨rfl, hb2⟩
  have hz2 : w.heap.size < w2.heap.size := Nat.lt_of_lt_of_le hz hb2.size
  have h62 := h6.below hb2 hz
  have H62 := hide h62
  obtain ⟨q0, q1, q2, q3, q4, q5⟩ := h62
  have HB2 : Hid (Below w.heap.size w w2) := hide ((unhide HB1).trans (hb2.mono (Nat.le_of_lt hz)))
  clear hb2 h6
  go_wp2_with fail
  refine (unhide KC w2 ((unhide HH).below (unhide HB2)) ((unhide HT).below (unhide HB2) hw0) (by omega)).mono ?_
  rintro e w3 ⟨rfl, hb3⟩
  have HB3 : Hid (Below w.heap.size w w3) := hide ((unhide HB2).trans (hb3.mono (Nat.le_of_lt hz2)))
  obtain ⟨r0, r1, r2, r3, r4, r5⟩ := (unhide H62).below hb3 hz2
  have hz3 : w.heap.size < w3.heap.size := Nat.lt_of_lt_of_le hz2 hb3.size
  clear hb3 q0 q1 q2 q3 q4 q5
  by_cases h1 : e1 = 0
  case neg =>
    have h1' : (e1 != 0) = true := by rw [bne_iff_ne]; exact h1
    have he2 := hide (show unitE K S P V L T = (e1, e2) by rw [unhide he', if_pos h1])
    go_wp2_with fail
    go_ret2
    exact ⟨ret2 (by rw [unhide he2]) (by rw [unhide he2]), unhide HB3⟩
  subst h1
  go_wp2_with fail
  refine (unhide KT w3).mono ?_
  rintro e w4 ⟨rfl, hb4⟩
  have HB4 : Hid (Below w.heap.size w w4) := hide ((unhide HB3).trans (hb4.mono (Nat.le_of_lt hz3)))
  clear hb4
  cases tb
  · have he2 := hide (show unitE K S P V L T = (10, 0) by rw [unhide he', if_neg (fun h => h rfl), if_neg (by decide)])
    go_wp2_with fail
    go_ret2
    exact ⟨ret2 (by rw [unhide he2]) (by rw [unhide he2]), unhide HB4⟩
  · have he2 := hide (show unitE K S P V L T = (0, 0) by rw [unhide he', if_neg (fun h => h rfl), if_pos rfl])
    go_wp2_with fail
    go_ret2
    exact ⟨ret2 (by rw [unhide he2]) (by rw [unhide he2]), unhide HB4⟩
end Go.Proofs.YtoepcplbpochpabDoor

/-
  What is wrong with the args and the fuel of a run: code.StartError.
-/
namespace Go.Proofs.YtoepcplbpochpabDoor
open Go.RowKit

/-- The error of args and fuel. -/
def startE (xs : List Int) (n fuel : Int) : Int := if fitsB xs n = false then 11 else if fuel < 0 ∨ 100000 < fuel then 12 else 0

set_option maxRecDepth 100000 in
set_option maxHeartbeats 1000000 in
theorem start_any (xs : List Int) (n fuel : Int) (ao : Option Addr) (cap : Nat) (w : World) (hH : HeldI w ao xs) (hl : xs.length ≤ 9223372036854775807) :
    Calls Tryd.prog 24 #[.slice ao xs.length cap, .int .i64 n, .int .i64 fuel] w fun e w' => e = .returned (.int .i64 (startE xs n fuel)) ∧ w' = w := by
  by_cases hne : (xs.length : Int) = n
  case neg =>
    have he := hide (show startE xs n fuel = 11 by unfold startE fitsB; rw [if_pos]; rw [show ((xs.length : Int) == n) = false by rw [beq_eq_false_iff_ne]; exact hne, Bool.and_false])
    have hne' : ((xs.length : Int) != n) = true := by rw [bne_iff_ne]; exact hne
    go_enter Tryd.func24, Tryd.ntmps24
    go_wp2
    go_ret
    exact ⟨ret_int (unhide he).symm, rfl⟩
  subst hne
  go_enter Tryd.func24, Tryd.ntmps24
  go_wp2
  go_loop [7] (fun i => ∃ k : Nat, k ≤ xs.length ∧ i = .int .i64 k ∧ Hid (valuesTo xs k = true)) (fun i => xs.length - (intOf i).toNat)
  case atStart => exact ⟨0, Nat.zero_le _, rfl, rfl⟩
  case round =>
    obtain ⟨k, hk, rfl, HV⟩ := hrel
    by_cases hlt : k < xs.length
    · obtain ⟨b, off, rfl, hb, hc⟩ : ∃ b off, ao = some ⟨b, off, none⟩ ∧ b < w.heap.size ∧ ∀ i, i < xs.length → w.cell? ⟨b, off + i, none⟩ = some (.int .i64 (nth xs i)) := by
        rcases hH with h | h
        · subst h; exact absurd hlt (by simp)
        · exact h
      have c := hc k hlt
      by_cases hv : 0 ≤ nth xs k ∧ nth xs k ≤ 65535
      · have hn := hide (show valuesTo xs (k + 1) = true by rw [valuesTo_succ, unhide HV]; simp [valueB, hv])
        obtain ⟨v0, v1⟩ := hv
        clear hc
        go_wp2
        go_round
        case rel => exact ⟨k + 1, by omega, by go_num, unhide hn⟩
        case measure => simp [intOf]; omega
      · have hf := hide (show startE xs (xs.length : Int) fuel = 11 by
          unfold startE
          rw [if_pos]
          unfold fitsB
          cases h : valuesTo xs xs.length
          · rfl
          · have := valuesTo_mono xs (show k + 1 ≤ xs.length by omega) h
            rw [valuesTo_succ] at this; simp [valueB] at this; omega)
        clear hc
        rcases (show nth xs k < 0 ∨ (0 ≤ nth xs k ∧ 65535 < nth xs k) by omega) with h | ⟨h, h'⟩
        all_goals
          clear hv
          go_wp2
          go_ret
          exact ⟨ret_int (unhide hf).symm, rfl⟩
    · have hk' : k = xs.length := by omega
      have hf := hide (show fitsB xs (xs.length : Int) = true by unfold fitsB; rw [← hk', unhide HV]; simp)
      clear hk'
      rcases (show fuel < 0 ∨ (0 ≤ fuel ∧ 100000 < fuel) ∨ (0 ≤ fuel ∧ fuel ≤ 100000) by omega) with h | ⟨h, h'⟩ | ⟨h, h'⟩
      case inr.inr =>
        have he := hide (show startE xs (xs.length : Int) fuel = 0 by unfold startE; rw [unhide hf, if_neg (by decide), if_neg (by omega)])
        go_wp2
        go_ret
        exact ⟨ret_int (unhide he).symm, rfl⟩
      all_goals
        have he := hide (show startE xs (xs.length : Int) fuel = 12 by unfold startE; rw [unhide hf, if_neg (by decide), if_pos (by omega)])
        go_wp2
        go_ret
        exact ⟨ret_int (unhide he).symm, rfl⟩
end Go.Proofs.YtoepcplbpochpabDoor

/-
  One step of the program's run: (*ir.run).step.
-/
namespace Go.Proofs.YtoepcplbpochpabDoor
open Go.RowKit

/-- What a step leaves behind. -/
def StepPost (w : World) (B : Nat) (s' : St) (e : Ending) (w' : World) : Prop :=
  e = .returned (.tuple #[]) ∧ (∃ vo' vs', Inv w' B s' vo' vs') ∧ Below B w w'
theorem StepPost.of {w w2 w' : World} {B : Nat} {s s' : St} {vo vs : Value} {e : Ending} (h : DoPost w2 B s' vo vs e w') (hI : Inv w2 B s vo vs) (hb : Below B w w2) : StepPost w B s' e w' :=
  ⟨h.1, h.2.1.elim (fun vo' h => ⟨vo', vs, h⟩), hb.trans (h.2.2.below (Nat.le_of_lt hI.1.lt) (fun k hk e => e.elim (fun e => by omega) (fun e => by have := (own_in hI.2.1 k e.symm).1; omega)))⟩
theorem StepPost.drew {w w' : World} {B : Nat} {s : St} {e : Ending} (h : StepPost w B s e w') : StepPost w B s e w'.drew := by
  obtain ⟨h1, ⟨vo', vs', h2, h3, h4⟩, h5⟩ := h
  exact ⟨h1, ⟨vo', vs', h2.drew, h3.drew, h4.drew⟩, h5.drew⟩
theorem Inv.drew {w : World} {B : Nat} {s : St} {vo vs : Value} (h : Inv w B s vo vs) : Inv w.drew B s vo vs := ⟨h.1.drew, h.2.1.drew, h.2.2.drew⟩
theorem Inv.keep {w w' : World} {B : Nat} {s : St} {vo vs : Value} (h : Inv w B s vo vs) (hk : Keep (fun _ => False) w w') : Inv w' B s vo vs :=
  ⟨h.1.of_block (hk.block B h.1.lt (fun h => h)), own_keep h.2.1 hk (fun _ _ h => h), own_keep h.2.2 hk (fun _ _ h => h)⟩

/-- The world behind the boxing of the instruction. -/
theorem step_open {w : World} {B : Nat} {s : St} {vo vs : Value} (op d a b : Int) (h : Inv w B s vo vs) :
    ∃ w2, w2 = w.alloc (.cells #[.int .i64 op, .int .i64 d, .int .i64 a, .int .i64 b] 31) ∧ Hid (Inv w2 B s vo vs) ∧ Hid (Keep (fun k => k = B) w w2) ∧
      w2.cell? ⟨w.heap.size, 0, none⟩ = some (.int .i64 op) ∧ w2.cell? ⟨w.heap.size, 1, none⟩ = some (.int .i64 d) ∧ w2.cell? ⟨w.heap.size, 2, none⟩ = some (.int .i64 a) ∧ w2.cell? ⟨w.heap.size, 3, none⟩ = some (.int .i64 b) ∧
      w.heap.size < w2.heap.size ∧ (∀ o, w2.frozen? ⟨B, o, none⟩ = false) := by
  have hi := h.keep ((Keep.refl _ w).alloc (.cells #[.int .i64 op, .int .i64 d, .int .i64 a, .int .i64 b] 31))
  have q : ∀ i, (w.alloc (.cells #[.int .i64 op, .int .i64 d, .int .i64 a, .int .i64 b] 31)).cell? ⟨w.heap.size, i, none⟩ = #[Value.int .i64 op, .int .i64 d, .int .i64 a, .int .i64 b][i]? := fun i => World.cell?_alloc_at (hn := rfl) ..
  exact ⟨_, rfl, hi, (Keep.refl _ _).alloc _, (q 0).trans rfl, (q 1).trans rfl, (q 2).trans rfl, (q 3).trans rfl, by simp, hi.1.2.2.2.2.2.2.2.2.2.1⟩

theorem pre_eq (x : In4) (s : St) (h : x.op ≤ 10) : preSt x s = s := by
  unfold preSt; rw [if_neg (by omega), if_neg (by omega), if_neg (by omega), if_neg (by omega), if_neg (by omega), if_neg (by omega)]

set_option maxRecDepth 100000 in
set_option maxHeartbeats 8000000 in
theorem step_any (B : Nat) (s : St) (vo vs : Value) (x : In4) (R n V : Int) (w : World) (h : Inv w B s vo vs) (hx : Right R n V x) (hp : x.op ≤ 14) (hE : s.env = progEnv) (hR : R ≤ 12) (hV : V ≤ 4)
    (hv : ∀ i, i < 16 → 0 ≤ s.regs i ∧ s.regs i ≤ 65535) (hat : s.at_ ≤ 1000) (hst : s.steps ≤ 100000) (hol : s.outs.length ≤ 100000) (hsl : s.stops.length ≤ 100000) :
    Calls Tryd.prog 26 #[.pointer (some ⟨B, 0, none⟩), .agg #[.int .i64 x.op, .int .i64 x.d, .int .i64 x.a, .int .i64 x.b]] w (StepPost w B (stepSt x s)) := by
  have hB := h.1.lt
  have KD := hide (fun (s' : St) (vo' vs' : Value) (w' : World) (h' : Inv w' B s' vo' vs') (hr : s'.regs = s.regs) (ha : s'.at_ = s.at_) (hst' : s'.steps = s.steps) (ho : s'.outs = s.outs) => do_any B s' vo' vs' x R n V w' h' hx (by omega) (by rw [hr]; exact hv) (by rw [ha]; exact hat) (by rw [hst']; exact hst) (by rw [ho]; exact hol))
  obtain ⟨w2, hw2, HI2, HK2, q0, q1, q2, q3, hz2, hf2⟩ := step_open x.op x.d x.a x.b h
  have HW := hide hw2
  have hB2 : B < w2.heap.size := (unhide HI2).1.lt
  have HBel : Hid (Below B w w2) := (unhide HK2).below (Nat.le_of_lt hB) (fun k hk e => by omega)
  have HI := hide h
  have HX := hide hx
  have hne : w.heap.size ≠ B := by omega
  have hk : ∀ (wq : World) (j o : Nat) (z : Value), (wq.setCell ⟨B, j, none⟩ z).cell? ⟨w.heap.size, o, none⟩ = wq.cell? ⟨w.heap.size, o, none⟩ := fun wq j o z => World.cell?_setCell_other _ _ _ _ (fun e => by injection e with e1; omega)
  clear h hx hv hw2
  have o0 : 0 ≤ x.op := (unhide HX).1
  have o1 := hp
  have hnv : s.env.nv = 4 := by rw [hE]; rfl
  have HEV : Hid (∀ v, s.vars v = s.tell v) := fun v => by unfold St.tell; rw [hE]; rfl
  clear hp hE
  have HN : Hid (some w.heap.size ≠ vo.ownBlock) := fun e => by have := (own_in (unhide HI).2.1 _ e.symm).2; omega
  obtain ⟨op, d, a, b⟩ := x
  simp only at *
  rcases (show op ≤ 10 ∨ op = 11 ∨ op = 12 ∨ op = 13 ∨ op = 14 by omega) with ho | rfl | rfl | rfl | rfl
  · have HP0 := hide (pre_eq ⟨op, d, a, b⟩ s ho)
    have HBl := HBel
    have h11 : (op == 11) = false := by rw [beq_eq_false_iff_ne]; omega
    have h12 : (op == 12) = false := by rw [beq_eq_false_iff_ne]; omega
    have h13 : (op == 13) = false := by rw [beq_eq_false_iff_ne]; omega
    have h14 : (op == 14) = false := by rw [beq_eq_false_iff_ne]; omega
    go_enter Tryd.func26, Tryd.ntmps26
    go_wp2_with fail
    rw [← unhide HW]
    go_wp2_with fail
    go_region_held3 (fun w' => w'.cell? ⟨w.heap.size, 0, none⟩ = some (.int .i64 op) ∧ w'.cell? ⟨w.heap.size, 1, none⟩ = some (.int .i64 d) ∧ w'.cell? ⟨w.heap.size, 2, none⟩ = some (.int .i64 a) ∧ w'.cell? ⟨w.heap.size, 3, none⟩ = some (.int .i64 b)) (first | (simp [*]; done) | assumption)
      ((go_at_call 45; refine (unhide KD s vo vs _ ?_ rfl rfl rfl rfl).mono ?_; exact (unhide HI2).drew; intro e w5 hD; have hbl := hD.2.2.block w.heap.size hz2 (fun h => h.elim hne (unhide HN)); have r0 := (World.cell?_of_block hbl).trans q0; have r1 := (World.cell?_of_block hbl).trans q1; have r2 := (World.cell?_of_block hbl).trans q2; have r3 := (World.cell?_of_block hbl).trans q3; have HP := hide (StepPost.of hD (unhide HI2).drew (unhide HBl).drew); obtain ⟨rfl, _, _⟩ := hD; clear hbl))
    go_wp2_with fail
    go_returns
    have hP := unhide HP
    unfold stepSt
    rw [unhide HP0]
    exact hP
  -- Stop
  · obtain ⟨v0, e0⟩ : ∃ v, s.tell 0 = v := ⟨_, rfl⟩
    obtain ⟨v1, e1⟩ : ∃ v, s.tell 1 = v := ⟨_, rfl⟩
    obtain ⟨v2, e2⟩ : ∃ v, s.tell 2 = v := ⟨_, rfl⟩
    obtain ⟨v3, e3⟩ : ∃ v, s.tell 3 = v := ⟨_, rfl⟩
    have c0 : w2.cell? ⟨B, 23, none⟩ = some (.int .i64 v0) := by rw [← e0, ← unhide HEV]; exact (unhide HI2).1.2.1 0 (by omega)
    have c1 : w2.cell? ⟨B, 24, none⟩ = some (.int .i64 v1) := by rw [← e1, ← unhide HEV]; exact (unhide HI2).1.2.1 1 (by omega)
    have c2 : w2.cell? ⟨B, 25, none⟩ = some (.int .i64 v2) := by rw [← e2, ← unhide HEV]; exact (unhide HI2).1.2.1 2 (by omega)
    have c3 : w2.cell? ⟨B, 26, none⟩ = some (.int .i64 v3) := by rw [← e3, ← unhide HEV]; exact (unhide HI2).1.2.1 3 (by omega)
    have KS := hide (fun w' (h : Inv w' B s vo vs) => see_any B s vo vs a v0 v1 v2 v3 w' h e0 e1 e2 e3 hsl)
    have HNs : Hid (some w.heap.size ≠ vs.ownBlock) := fun e => by have := (own_in (unhide HI).2.2 _ e.symm).2; omega
    have HNb : Hid (∀ k, k < B → ¬ (k = B ∨ some k = vs.ownBlock)) := fun k hk e => e.elim (fun e => by omega) (fun e => by have := (own_in (unhide HI2).2.2 k e.symm).1; omega)
    have HE := hide (And.intro e0 (And.intro e1 (And.intro e2 e3)))
    clear e0 e1 e2 e3
    go_enter Tryd.func26, Tryd.ntmps26
    go_wp2_with fail
    rw [← unhide HW]
    go_region_held3 (fun w' => w'.cell? ⟨w.heap.size, 2, none⟩ = some (.int .i64 a) ∧ w'.cell? ⟨B, 23, none⟩ = some (.int .i64 v0) ∧ w'.cell? ⟨B, 24, none⟩ = some (.int .i64 v1) ∧ w'.cell? ⟨B, 25, none⟩ = some (.int .i64 v2) ∧ w'.cell? ⟨B, 26, none⟩ = some (.int .i64 v3)) (first | (simp [*]; done) | assumption)
      ((go_at_call 44; refine (unhide KS _ ?_).mono ?_; exact (unhide HI2).drew; intro e w4 hD; obtain ⟨rfl, ⟨vs4, hI4⟩, hK4⟩ := hD; have hbl := hK4.block w.heap.size hz2 (fun h => h.elim hne (unhide HNs)); have p0 := (World.cell?_of_block hbl).trans q0; have p1 := (World.cell?_of_block hbl).trans q1; have p2 := (World.cell?_of_block hbl).trans q2; have p3 := (World.cell?_of_block hbl).trans q3; have d0 : w4.cell? ⟨B, 23, none⟩ = some (.int .i64 v0) := (by rw [← (unhide HE).1, ← unhide HEV]; exact hI4.1.2.1 0 (show 0 < s.env.nv by omega)); have d1 : w4.cell? ⟨B, 24, none⟩ = some (.int .i64 v1) := (by rw [← (unhide HE).2.1, ← unhide HEV]; exact hI4.1.2.1 1 (show 1 < s.env.nv by omega)); have d2 : w4.cell? ⟨B, 25, none⟩ = some (.int .i64 v2) := (by rw [← (unhide HE).2.2.1, ← unhide HEV]; exact hI4.1.2.1 2 (show 2 < s.env.nv by omega)); have d3 : w4.cell? ⟨B, 26, none⟩ = some (.int .i64 v3) := (by rw [← (unhide HE).2.2.2, ← unhide HEV]; exact hI4.1.2.1 3 (show 3 < s.env.nv by omega)); have HI4 := hide hI4; have HK4 := hide hK4; clear hbl hI4 hK4))
    have HBl : Hid (Below B w w4) := (unhide HBel).drew.trans ((unhide HK4).below (Nat.le_of_lt hB2) (unhide HNb))
    have hz4 : w.heap.size < w4.heap.size := Nat.lt_of_lt_of_le hz2 (unhide HK4).size
    clear HK4 q0 q1 q2 q3 c0 c1 c2 c3
    go_wp2_with fail
    go_region_held3 (fun w' => w'.cell? ⟨w.heap.size, 0, none⟩ = some (.int .i64 11) ∧ w'.cell? ⟨w.heap.size, 1, none⟩ = some (.int .i64 d) ∧ w'.cell? ⟨w.heap.size, 2, none⟩ = some (.int .i64 a) ∧ w'.cell? ⟨w.heap.size, 3, none⟩ = some (.int .i64 b)) (first | (simp [*]; done) | assumption)
      ((go_at_call 45; refine (unhide KD (s.see a) vo vs4 _ ?_ rfl rfl rfl rfl).mono ?_; exact (unhide HI4).drew; intro e w5 hD; have hbl := hD.2.2.block w.heap.size hz4 (fun h => h.elim hne (unhide HN)); have r0 := (World.cell?_of_block hbl).trans p0; have r1 := (World.cell?_of_block hbl).trans p1; have r2 := (World.cell?_of_block hbl).trans p2; have r3 := (World.cell?_of_block hbl).trans p3; have HP := hide (StepPost.of hD (unhide HI4).drew (unhide HBl).drew); obtain ⟨rfl, _, _⟩ := hD; clear hbl))
    go_wp2_with fail
    go_returns
    have hP := unhide HP
    exact hP
  · obtain ⟨d0, d1⟩ := (unhide HX).2.2.2.2.2.2.2.2.2.1 (show (12 : Int) ≤ 12 ∧ (12 : Int) ≤ 14 by decide)
    simp only at d0 d1
    obtain ⟨dn, rfl⟩ : ∃ dn : Nat, d = dn := ⟨d.toNat, by omega⟩
    have d2 : (dn : Int) < 4 := by omega
    have cd : w2.cell? ⟨B, 23 + dn, none⟩ = some (.int .i64 (s.vars dn)) := (unhide HI2).1.2.1 dn (by omega)
    obtain ⟨a0, a1⟩ := (unhide HX).2.2.2.1 (.inr (.inr (.inr (.inr (.inr rfl)))))
    simp only at a0 a1
    obtain ⟨an, rfl⟩ : ∃ an : Nat, a = an := ⟨a.toNat, by omega⟩
    have a2 : (an : Int) < 16 := by omega
    obtain ⟨y, hy⟩ : ∃ y, y = s.regs an := ⟨_, rfl⟩
    have ca : w2.cell? ⟨B, an, none⟩ = some (.int .i64 y) := by rw [hy]; exact (unhide HI2).1.1 an (by omega)
    have HY := hide hy
    have hkc : ∀ (wq : World) (z : Value), (wq.setCell ⟨B, 23 + dn, none⟩ z).cell? ⟨B, an, none⟩ = wq.cell? ⟨B, an, none⟩ := fun wq z => World.cell?_setCell_other _ _ _ _ (fun e => by injection e with e1 e2; omega)
    clear hy
    go_enter Tryd.func26, Tryd.ntmps26
    go_wp2_with fail
    rw [← unhide HW]
    go_region_held3 (fun w' => w'.cell? ⟨w.heap.size, 1, none⟩ = some (.int .i64 (dn : Int)) ∧ w'.cell? ⟨w.heap.size, 2, none⟩ = some (.int .i64 (an : Int)) ∧ w'.cell? ⟨B, an, none⟩ = some (.int .i64 y)) (simp [*]) (fail)
    obtain ⟨w4, hw4⟩ : ∃ w4, w4 = (w2.setCell ⟨B, 23 + dn, none⟩ (.int .i64 y)).drew := ⟨_, rfl⟩
    rw [← hw4]
    have HI4 : Hid (Inv w4 B (s.var dn y) vo vs) := by
      rw [hw4]; exact ((unhide HI2).turn ((unhide HI2).1.set_var dn (by omega) _) (keep_set (Keep.refl _ _) _ _) rfl rfl).drew
    have HBl : Hid (Below B w w4) := by rw [hw4]; exact ((unhide HBel).setCell (p := ⟨B, 23 + dn, none⟩) (Nat.le_refl _) _).drew
    have hz4 : w.heap.size < w4.heap.size := by rw [hw4]; simp; exact hz2
    have p0 : w4.cell? ⟨w.heap.size, 0, none⟩ = some (.int .i64 12) := by rw [hw4]; exact (hk _ _ _ _).trans q0
    have p1 : w4.cell? ⟨w.heap.size, 1, none⟩ = some (.int .i64 (dn : Int)) := by rw [hw4]; exact (hk _ _ _ _).trans q1
    have p2 : w4.cell? ⟨w.heap.size, 2, none⟩ = some (.int .i64 (an : Int)) := by rw [hw4]; exact (hk _ _ _ _).trans q2
    have p3 : w4.cell? ⟨w.heap.size, 3, none⟩ = some (.int .i64 b) := by rw [hw4]; exact (hk _ _ _ _).trans q3
    clear hw4 q0 q1 q2 q3 cd ca
    go_wp2_with fail
    go_region_held3 (fun w' => w'.cell? ⟨w.heap.size, 0, none⟩ = some (.int .i64 12) ∧ w'.cell? ⟨w.heap.size, 1, none⟩ = some (.int .i64 (dn : Int)) ∧ w'.cell? ⟨w.heap.size, 2, none⟩ = some (.int .i64 (an : Int)) ∧ w'.cell? ⟨w.heap.size, 3, none⟩ = some (.int .i64 b)) (first | (simp [*]; done) | assumption)
      ((go_at_call 45; refine (unhide KD (s.var dn y) vo vs _ ?_ rfl rfl rfl rfl).mono ?_; exact (unhide HI4).drew; intro e w5 hD; have hbl := hD.2.2.block w.heap.size hz4 (fun h => h.elim hne (unhide HN)); have r0 := (World.cell?_of_block hbl).trans p0; have r1 := (World.cell?_of_block hbl).trans p1; have r2 := (World.cell?_of_block hbl).trans p2; have r3 := (World.cell?_of_block hbl).trans p3; have HP := hide (StepPost.of hD (unhide HI4).drew (unhide HBl).drew); obtain ⟨rfl, _, _⟩ := hD; clear hbl))
    go_wp2_with fail
    go_returns
    have hP := unhide HP
    rw [unhide HY] at hP
    exact hP
  · obtain ⟨d0, d1⟩ := (unhide HX).2.2.2.2.2.2.2.2.2.1 (show (12 : Int) ≤ 13 ∧ (13 : Int) ≤ 14 by decide)
    simp only at d0 d1
    obtain ⟨dn, rfl⟩ : ∃ dn : Nat, d = dn := ⟨d.toNat, by omega⟩
    have d2 : (dn : Int) < 4 := by omega
    have cd : w2.cell? ⟨B, 23 + dn, none⟩ = some (.int .i64 (s.vars dn)) := (unhide HI2).1.2.1 dn (by omega)
    go_enter Tryd.func26, Tryd.ntmps26
    go_wp2_with fail
    rw [← unhide HW]
    go_region_held3 (fun w' => w'.cell? ⟨w.heap.size, 1, none⟩ = some (.int .i64 (dn : Int)) ∧ w'.cell? ⟨w.heap.size, 2, none⟩ = some (.int .i64 a)) (simp [*]) (fail)
    obtain ⟨w4, hw4⟩ : ∃ w4, w4 = (w2.setCell ⟨B, 23 + dn, none⟩ (.int .i64 a)).drew := ⟨_, rfl⟩
    rw [← hw4]
    have HI4 : Hid (Inv w4 B (s.var dn a) vo vs) := by
      rw [hw4]; exact ((unhide HI2).turn ((unhide HI2).1.set_var dn (by omega) _) (keep_set (Keep.refl _ _) _ _) rfl rfl).drew
    have HBl : Hid (Below B w w4) := by rw [hw4]; exact ((unhide HBel).setCell (p := ⟨B, 23 + dn, none⟩) (Nat.le_refl _) _).drew
    have hz4 : w.heap.size < w4.heap.size := by rw [hw4]; simp; exact hz2
    have p0 : w4.cell? ⟨w.heap.size, 0, none⟩ = some (.int .i64 13) := by rw [hw4]; exact (hk _ _ _ _).trans q0
    have p1 : w4.cell? ⟨w.heap.size, 1, none⟩ = some (.int .i64 (dn : Int)) := by rw [hw4]; exact (hk _ _ _ _).trans q1
    have p2 : w4.cell? ⟨w.heap.size, 2, none⟩ = some (.int .i64 a) := by rw [hw4]; exact (hk _ _ _ _).trans q2
    have p3 : w4.cell? ⟨w.heap.size, 3, none⟩ = some (.int .i64 b) := by rw [hw4]; exact (hk _ _ _ _).trans q3
    clear hw4 q0 q1 q2 q3 cd
    go_wp2_with fail
    go_region_held3 (fun w' => w'.cell? ⟨w.heap.size, 0, none⟩ = some (.int .i64 13) ∧ w'.cell? ⟨w.heap.size, 1, none⟩ = some (.int .i64 (dn : Int)) ∧ w'.cell? ⟨w.heap.size, 2, none⟩ = some (.int .i64 a) ∧ w'.cell? ⟨w.heap.size, 3, none⟩ = some (.int .i64 b)) (first | (simp [*]; done) | assumption)
      ((go_at_call 45; refine (unhide KD (s.var dn a) vo vs _ ?_ rfl rfl rfl rfl).mono ?_; exact (unhide HI4).drew; intro e w5 hD; have hbl := hD.2.2.block w.heap.size hz4 (fun h => h.elim hne (unhide HN)); have r0 := (World.cell?_of_block hbl).trans p0; have r1 := (World.cell?_of_block hbl).trans p1; have r2 := (World.cell?_of_block hbl).trans p2; have r3 := (World.cell?_of_block hbl).trans p3; have HP := hide (StepPost.of hD (unhide HI4).drew (unhide HBl).drew); obtain ⟨rfl, _, _⟩ := hD; clear hbl))
    go_wp2_with fail
    go_returns
    have hP := unhide HP
    exact hP
  · obtain ⟨d0, d1⟩ := (unhide HX).2.2.2.2.2.2.2.2.2.1 (show (12 : Int) ≤ 14 ∧ (14 : Int) ≤ 14 by decide)
    simp only at d0 d1
    obtain ⟨dn, rfl⟩ : ∃ dn : Nat, d = dn := ⟨d.toNat, by omega⟩
    have d2 : (dn : Int) < 4 := by omega
    have cd : w2.cell? ⟨B, 23 + dn, none⟩ = some (.int .i64 (s.vars dn)) := (unhide HI2).1.2.1 dn (by omega)
    go_enter Tryd.func26, Tryd.ntmps26
    go_wp2_with fail
    rw [← unhide HW]
    go_region_held3 (fun w' => w'.cell? ⟨w.heap.size, 1, none⟩ = some (.int .i64 (dn : Int))) (simp [*]) (fail)
    obtain ⟨w4, hw4⟩ : ∃ w4, w4 = (w2.setCell ⟨B, 23 + dn, none⟩ (.int .i64 (-1))).drew := ⟨_, rfl⟩
    rw [← hw4]
    have HI4 : Hid (Inv w4 B (s.var dn (-1)) vo vs) := by
      rw [hw4]; exact ((unhide HI2).turn ((unhide HI2).1.set_var dn (by omega) _) (keep_set (Keep.refl _ _) _ _) rfl rfl).drew
    have HBl : Hid (Below B w w4) := by rw [hw4]; exact ((unhide HBel).setCell (p := ⟨B, 23 + dn, none⟩) (Nat.le_refl _) _).drew
    have hz4 : w.heap.size < w4.heap.size := by rw [hw4]; simp; exact hz2
    have p0 : w4.cell? ⟨w.heap.size, 0, none⟩ = some (.int .i64 14) := by rw [hw4]; exact (hk _ _ _ _).trans q0
    have p1 : w4.cell? ⟨w.heap.size, 1, none⟩ = some (.int .i64 (dn : Int)) := by rw [hw4]; exact (hk _ _ _ _).trans q1
    have p2 : w4.cell? ⟨w.heap.size, 2, none⟩ = some (.int .i64 a) := by rw [hw4]; exact (hk _ _ _ _).trans q2
    have p3 : w4.cell? ⟨w.heap.size, 3, none⟩ = some (.int .i64 b) := by rw [hw4]; exact (hk _ _ _ _).trans q3
    clear hw4 q0 q1 q2 q3 cd
    go_wp2_with fail
    go_region_held3 (fun w' => w'.cell? ⟨w.heap.size, 0, none⟩ = some (.int .i64 14) ∧ w'.cell? ⟨w.heap.size, 1, none⟩ = some (.int .i64 (dn : Int)) ∧ w'.cell? ⟨w.heap.size, 2, none⟩ = some (.int .i64 a) ∧ w'.cell? ⟨w.heap.size, 3, none⟩ = some (.int .i64 b)) (first | (simp [*]; done) | assumption)
      ((go_at_call 45; refine (unhide KD (s.var dn (-1)) vo vs _ ?_ rfl rfl rfl rfl).mono ?_; exact (unhide HI4).drew; intro e w5 hD; have hbl := hD.2.2.block w.heap.size hz4 (fun h => h.elim hne (unhide HN)); have r0 := (World.cell?_of_block hbl).trans p0; have r1 := (World.cell?_of_block hbl).trans p1; have r2 := (World.cell?_of_block hbl).trans p2; have r3 := (World.cell?_of_block hbl).trans p3; have HP := hide (StepPost.of hD (unhide HI4).drew (unhide HBl).drew); obtain ⟨rfl, _, _⟩ := hD; clear hbl))
    go_wp2_with fail
    go_returns
    have hP := unhide HP
    exact hP
end Go.Proofs.YtoepcplbpochpabDoor
