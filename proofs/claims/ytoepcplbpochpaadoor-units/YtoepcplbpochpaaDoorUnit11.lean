/-
  Has a unit a table that may be? What mach.isTable answers.
-/
import Derived.Test.YtoepcplbpochpaaDoorUnit6
import Derived.Test.YtoepcplbpochpaaDoorUnit10

namespace Go.Proofs.YtoepcplbpochpaaDoor
open Go.RowKit

def TabOk (T : ByteArray) (K S V : Int) (n : Nat) : Prop := ∃ R, TabS T R ∧ TabIn K S V n R
noncomputable def tabB (T : ByteArray) (K S V : Int) (n : Nat) : Bool := @ite _ (TabOk T K S V n) (Classical.propDecidable _) true false
theorem tabB_yes {T : ByteArray} {K S V : Int} {n : Nat} (h : TabOk T K S V n) : tabB T K S V n = true := @if_pos _ (Classical.propDecidable _) h _ _ _
theorem tabB_no {T : ByteArray} {K S V : Int} {n : Nat} (h : ¬ TabOk T K S V n) : tabB T K S V n = false := @if_neg _ (Classical.propDecidable _) h _ _ _
theorem tabB_true {T : ByteArray} {K S V : Int} {n : Nat} (h : tabB T K S V n = true) : TabOk T K S V n := by
  rcases Classical.em (TabOk T K S V n) with hy | hn
  · exact hy
  · rw [tabB_no hn] at h; cases h

theorem decode_yes {s : ByteArray} {R : List Rg} (hs : s.size ≤ maxLen) (ht : TabS s R) (w : World) :
    Calls Tryd.prog 57 #[.string s] w fun e w' => ∃ v, e = .returned (.tuple #[v, .int .i64 0]) ∧ w'.ownsRow w.heap.size 132 5 v R.length (cellsOf R) ∧ Below w.heap.size w w' :=
  (decode_any s w hs).mono fun e w' h => by
    rcases h with ⟨hb, ⟨R', v, ht', he, ho⟩ | ⟨hn, _⟩⟩
    · obtain rfl := tab_uniq ht ht'; exact ⟨v, he, ho, hb⟩
    · exact absurd ht (hn R)
theorem decode_no {s : ByteArray} (hs : s.size ≤ maxLen) (ht : ∀ R, ¬ TabS s R) (w : World) :
    Calls Tryd.prog 57 #[.string s] w fun e w' => e = .returned (.tuple #[.slice none 0 0, .int .i64 14]) ∧ Below w.heap.size w w' :=
  (decode_any s w hs).mono fun e w' h => by
    rcases h with ⟨hb, ⟨R', v, ht', he, ho⟩ | ⟨hn, he⟩⟩
    · exact absurd ht' (ht R')
    · exact ⟨he, hb⟩

/-- A unit's six cells. -/
def At6 (w : World) (g : Nat) (K S P V : Int) (sl : Value) (T : ByteArray) : Prop :=
  w.cell? ⟨g, 0, none⟩ = some (.int .i64 K) ∧ w.cell? ⟨g, 1, none⟩ = some (.int .i64 S) ∧ w.cell? ⟨g, 2, none⟩ = some (.int .i64 P) ∧ w.cell? ⟨g, 3, none⟩ = some (.int .i64 V) ∧ w.cell? ⟨g, 4, none⟩ = some sl ∧ w.cell? ⟨g, 5, none⟩ = some (.string T)
theorem At6.below {w w' : World} {B g : Nat} {K S P V : Int} {sl : Value} {T : ByteArray} (h : At6 w g K S P V sl T) (hb : Below B w w') (hg : g < B) : At6 w' g K S P V sl T :=
  ⟨(hb.cell hg).trans h.1, (hb.cell hg).trans h.2.1, (hb.cell hg).trans h.2.2.1, (hb.cell hg).trans h.2.2.2.1, (hb.cell hg).trans h.2.2.2.2.1, (hb.cell hg).trans h.2.2.2.2.2⟩
theorem at6_new (w : World) (K S P V : Int) (sl : Value) (T : ByteArray) : At6 (w.alloc (.cells #[.int .i64 K, .int .i64 S, .int .i64 P, .int .i64 V, sl, .string T] 26)) w.heap.size K S P V sl T := by
  have q : ∀ i, (w.alloc (.cells #[.int .i64 K, .int .i64 S, .int .i64 P, .int .i64 V, sl, .string T] 26)).cell? ⟨w.heap.size, i, none⟩ = #[Value.int .i64 K, .int .i64 S, .int .i64 P, .int .i64 V, sl, .string T][i]? := fun i => World.cell?_alloc_at (hn := rfl) ..
  exact ⟨(q 0).trans rfl, (q 1).trans rfl, (q 2).trans rfl, (q 3).trans rfl, (q 4).trans rfl, (q 5).trans rfl⟩
/-- The world behind the boxing of a unit. -/
theorem unit_open (w : World) (K S P V : Int) (sl : Value) (T : ByteArray) : ∃ w1, w1 = w.alloc (.cells #[.int .i64 K, .int .i64 S, .int .i64 P, .int .i64 V, sl, .string T] 26) ∧ At6 w1 w.heap.size K S P V sl T ∧ Hid (Below w.heap.size w w1) ∧ w.heap.size < w1.heap.size :=
  ⟨_, rfl, at6_new _ _ _ _ _ _ _, (Below.refl _ _).alloc (Nat.le_refl _) _, by simp⟩

set_option maxRecDepth 100000 in
set_option maxHeartbeats 2000000 in
theorem isTableU_any (K S P V : Int) (n : Nat) (T : ByteArray) (ao : Option Addr) (cap : Nat) (w : World) (hs : T.size ≤ maxLen) :
    Calls Tryd.prog 46 #[.agg #[.int .i64 K, .int .i64 S, .int .i64 P, .int .i64 V, .slice ao n cap, .string T]] w fun e w' =>
      e = .returned (.bool (tabB T K S V n)) ∧ Below w.heap.size w w' := by
  by_cases ht : ∃ R, TabS T R
  case neg =>
    have HF := hide (tabB_no (K := K) (S := S) (V := V) (n := n) (fun h => ht (h.elim fun R h => ⟨R, h.1⟩)))
    have KD := hide (fun w => decode_no hs (fun R h => ht ⟨R, h⟩) w)
    clear ht
    go_enter Tryd.func46, Tryd.ntmps46
    go_wp2_with fail
    obtain ⟨w1, hw1, ⟨p0, p1, p2, p3, p4, p5⟩, HB1, hz1⟩ := unit_open w K S P V (.slice ao n cap) T
    rw [← hw1]
    clear hw1
    refine (unhide KD w1).mono ?_
    rintro e w2 ⟨rfl, hb2⟩
    have HB2 : Hid (Below w.heap.size w w2) := (unhide HB1).trans (hb2.mono (Nat.le_of_lt hz1))
    clear hb2
    go_wp2
    go_ret
    exact ⟨ret_bool (unhide HF).symm, unhide HB2⟩
  obtain ⟨R, ht⟩ := ht
  have KD := hide (fun w => decode_yes hs ht w)
  have HT := hide ht
  have KI := hide (fun (r : Rg) w => isRangeU_any K S P V n T r ao cap w)
  clear ht
  go_enter Tryd.func46, Tryd.ntmps46
  go_wp2_with fail
  obtain ⟨w1, hw1, h6, HB1, hz1⟩ := unit_open w K S P V (.slice ao n cap) T
  have p5 := h6.2.2.2.2.2
  have H6 := hide h6
  rw [← hw1]
  clear hw1 h6
  refine (unhide KD w1).mono ?_
  rintro e w2 ⟨v, rfl, ho, hb2⟩
  have HB2 : Hid (Below w.heap.size w w2) := (unhide HB1).trans (hb2.mono (Nat.le_of_lt hz1))
  have H62 := hide ((unhide H6).below hb2 hz1)
  have hz2 : w.heap.size < w2.heap.size := Nat.lt_of_lt_of_le hz1 hb2.size
  obtain ⟨ao', cap', rfl, hH, hlen, _, _⟩ := own_held ho
  have HH := hide hH
  unfold maxLen at hlen
  clear hb2 ho hH p5 H6 HB1
  go_wp2_with fail
  go_loopw [5] (fun i wr => ∃ k : Nat, k ≤ R.length ∧ i = .int .i64 k ∧ Hid (∀ j, j < k → RgIn K S V n (rg R j)) ∧ Below w2.heap.size w2 wr) (fun i _ => R.length - (intOf i).toNat)
  case atStart => exact ⟨0, Nat.zero_le _, rfl, fun j hj => by omega, Below.refl _ _⟩
  case round =>
    obtain ⟨k, hk, rfl, HC, hbel⟩ := hrel
    have hB := hbel.size
    have HBr : Hid (Below w.heap.size w wr) := (unhide HB2).trans (hbel.mono (by omega))
    by_cases hlt : k < R.length
    case neg =>
      obtain rfl : k = R.length := by omega
      have HF := hide (tabB_yes (K := K) (S := S) (V := V) (n := n) ⟨R, unhide HT, unhide HC⟩)
      clear HC
      go_wp2
      go_ret
      exact ⟨ret_bool (unhide HF).symm, unhide HBr⟩
    obtain ⟨b, off, rfl, hb, hL⟩ : ∃ b off, ao' = some ⟨b, off, none⟩ ∧ b < w2.heap.size ∧ Lie w2 b off R := by
      rcases unhide HH with h | h
      · subst h; exact absurd hlt (by simp)
      · exact h
    obtain ⟨r, hr⟩ : ∃ r, r = rg R k := ⟨_, rfl⟩
    have hA := (hL k hlt).below hbel hb
    rw [← hr] at hA
    obtain ⟨c0, c1, c2, c3, c4⟩ := hA
    obtain ⟨m0, m1, m2, m3, m4, m5⟩ := (unhide H62).below hbel hz2
    have KC := hide (unhide KI r)
    have hbr : b < wr.heap.size := by omega
    have h2r : w.heap.size < wr.heap.size := by omega
    have HR := hide hr
    clear hr hL KI
    by_cases h0 : RgIn K S V n r
    · have hnx : Hid (∀ j, j < k + 1 → RgIn K S V n (rg R j)) := fun j hj => by
        by_cases e : j = k
        · subst e; rw [← unhide HR]; exact h0
        · exact unhide HC j (by omega)
      rw [rgIn_yes h0] at KC
      clear h0
      go_wp2_with fail
      go_region_held3 (fun w' => w'.cell? ⟨b, off + k * 5, none⟩ = some (.int .i64 r.v) ∧ w'.cell? ⟨b, off + k * 5 + 1, none⟩ = some (.int .i64 r.f) ∧ w'.cell? ⟨b, off + k * 5 + 2, none⟩ = some (.int .i64 r.t) ∧ w'.cell? ⟨b, off + k * 5 + 3, none⟩ = some (.int .i64 r.k) ∧ w'.cell? ⟨b, off + k * 5 + 4, none⟩ = some (.int .i64 r.a) ∧ w'.cell? ⟨w.heap.size, 0, none⟩ = some (.int .i64 K) ∧ w'.cell? ⟨w.heap.size, 1, none⟩ = some (.int .i64 S) ∧ w'.cell? ⟨w.heap.size, 2, none⟩ = some (.int .i64 P) ∧ w'.cell? ⟨w.heap.size, 3, none⟩ = some (.int .i64 V) ∧ w'.cell? ⟨w.heap.size, 4, none⟩ = some (.slice ao n cap) ∧ w'.cell? ⟨w.heap.size, 5, none⟩ = some (.string T)) (first | (simp [*]; done) | (refine ⟨?_, ?_, ?_, ?_, ?_, ?_, ?_, ?_, ?_, ?_, ?_⟩ <;> assumption))
        ((go_at_call 83; refine (unhide KC _).mono ?_; rintro e w4 ⟨rfl, hb4⟩; have x0 := (hb4.cell (p := ⟨b, off + k * 5, none⟩) hbr).trans c0; have x1 := (hb4.cell (p := ⟨b, off + k * 5 + 1, none⟩) hbr).trans c1; have x2 := (hb4.cell (p := ⟨b, off + k * 5 + 2, none⟩) hbr).trans c2; have x3 := (hb4.cell (p := ⟨b, off + k * 5 + 3, none⟩) hbr).trans c3; have x4 := (hb4.cell (p := ⟨b, off + k * 5 + 4, none⟩) hbr).trans c4; have y0 := (hb4.cell (p := ⟨w.heap.size, 0, none⟩) h2r).trans m0; have y1 := (hb4.cell (p := ⟨w.heap.size, 1, none⟩) h2r).trans m1; have y2 := (hb4.cell (p := ⟨w.heap.size, 2, none⟩) h2r).trans m2; have y3 := (hb4.cell (p := ⟨w.heap.size, 3, none⟩) h2r).trans m3; have y4 := (hb4.cell (p := ⟨w.heap.size, 4, none⟩) h2r).trans m4; have y5 := (hb4.cell (p := ⟨w.heap.size, 5, none⟩) h2r).trans m5; have HB4 := hide (hbel.drew.trans (hb4.mono hB)); clear hb4))
      go_wp2
      go_roundw
      case rel => exact ⟨k + 1, by omega, by go_num, unhide hnx, unhide HB4⟩
      case measure => simp [intOf]; omega
    · have HF := hide (tabB_no (T := T) (K := K) (S := S) (V := V) (n := n) (fun h => by
        obtain ⟨R', h1, h2⟩ := h
        obtain rfl := tab_uniq (unhide HT) h1
        exact h0 (by rw [unhide HR]; exact h2 k hlt)))
      rw [rgIn_no h0] at KC
      clear h0
      go_wp2_with fail
      go_region_held3 (fun w' => w'.cell? ⟨b, off + k * 5, none⟩ = some (.int .i64 r.v) ∧ w'.cell? ⟨b, off + k * 5 + 1, none⟩ = some (.int .i64 r.f) ∧ w'.cell? ⟨b, off + k * 5 + 2, none⟩ = some (.int .i64 r.t) ∧ w'.cell? ⟨b, off + k * 5 + 3, none⟩ = some (.int .i64 r.k) ∧ w'.cell? ⟨b, off + k * 5 + 4, none⟩ = some (.int .i64 r.a) ∧ w'.cell? ⟨w.heap.size, 0, none⟩ = some (.int .i64 K) ∧ w'.cell? ⟨w.heap.size, 1, none⟩ = some (.int .i64 S) ∧ w'.cell? ⟨w.heap.size, 2, none⟩ = some (.int .i64 P) ∧ w'.cell? ⟨w.heap.size, 3, none⟩ = some (.int .i64 V) ∧ w'.cell? ⟨w.heap.size, 4, none⟩ = some (.slice ao n cap) ∧ w'.cell? ⟨w.heap.size, 5, none⟩ = some (.string T)) (first | (simp [*]; done) | (refine ⟨?_, ?_, ?_, ?_, ?_, ?_, ?_, ?_, ?_, ?_, ?_⟩ <;> assumption))
        ((go_at_call 83; refine (unhide KC _).mono ?_; rintro e w4 ⟨rfl, hb4⟩; have x0 := (hb4.cell (p := ⟨b, off + k * 5, none⟩) hbr).trans c0; have x1 := (hb4.cell (p := ⟨b, off + k * 5 + 1, none⟩) hbr).trans c1; have x2 := (hb4.cell (p := ⟨b, off + k * 5 + 2, none⟩) hbr).trans c2; have x3 := (hb4.cell (p := ⟨b, off + k * 5 + 3, none⟩) hbr).trans c3; have x4 := (hb4.cell (p := ⟨b, off + k * 5 + 4, none⟩) hbr).trans c4; have y0 := (hb4.cell (p := ⟨w.heap.size, 0, none⟩) h2r).trans m0; have y1 := (hb4.cell (p := ⟨w.heap.size, 1, none⟩) h2r).trans m1; have y2 := (hb4.cell (p := ⟨w.heap.size, 2, none⟩) h2r).trans m2; have y3 := (hb4.cell (p := ⟨w.heap.size, 3, none⟩) h2r).trans m3; have y4 := (hb4.cell (p := ⟨w.heap.size, 4, none⟩) h2r).trans m4; have y5 := (hb4.cell (p := ⟨w.heap.size, 5, none⟩) h2r).trans m5; have HB4 := hide (hbel.drew.trans (hb4.mono hB)); clear hb4))
      go_wp2
      go_ret
      exact ⟨ret_bool (unhide HF).symm, (unhide HB2).trans ((unhide HB4).mono (by omega))⟩
end Go.Proofs.YtoepcplbpochpaaDoor
