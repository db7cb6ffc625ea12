/-
  Has a unit a table that may be? What the document's own check (lodgeref.tabled) answers.
-/
import Derived.Test.YtoepcplbpochpaaDoorUnit11
import Derived.Test.YtoepcplbpochpaaDoorUnit26
import Derived.Test.YtoepcplbpochpaaDoorUnit1

namespace Go.Proofs.YtoepcplbpochpaaDoor
open Go.RowKit

theorem refDecode_yes {s : ByteArray} {R : List Rg} (hs : s.size ≤ maxLen) (ht : TabS s R) (w : World) :
    Calls Tryd.prog 60 #[.string s] w fun e w' => ∃ v, e = .returned (.tuple #[v, .int .i64 0]) ∧ w'.ownsRow w.heap.size 132 5 v R.length (cellsOf R) ∧ Below w.heap.size w w' :=
  (refDecode_any s w hs).mono fun e w' h => by
    rcases h with ⟨hb, ⟨R', v, ht', he, ho⟩ | ⟨hn, _⟩⟩
    · obtain rfl := tab_uniq ht ht'; exact ⟨v, he, ho, hb⟩
    · exact absurd ht (hn R)
theorem refDecode_no {s : ByteArray} (hs : s.size ≤ maxLen) (ht : ∀ R, ¬ TabS s R) (w : World) :
    Calls Tryd.prog 60 #[.string s] w fun e w' => e = .returned (.tuple #[.slice none 0 0, .int .i64 14]) ∧ Below w.heap.size w w' :=
  (refDecode_any s w hs).mono fun e w' h => by
    rcases h with ⟨hb, ⟨R', v, ht', he, ho⟩ | ⟨hn, he⟩⟩
    · exact absurd ht' (ht R')
    · exact ⟨he, hb⟩

set_option maxRecDepth 100000 in
set_option maxHeartbeats 4000000 in
theorem tabled_any (K S P V : Int) (n : Nat) (T : ByteArray) (ao : Option Addr) (cap : Nat) (w : World) (hs : T.size ≤ maxLen) :
    Calls Tryd.prog 47 #[.agg #[.int .i64 K, .int .i64 S, .int .i64 P, .int .i64 V, .slice ao n cap, .string T]] w fun e w' =>
      e = .returned (.bool (tabB T K S V n)) ∧ Below w.heap.size w w' := by
  by_cases ht : ∃ R, TabS T R
  case neg =>
    have HF := hide (tabB_no (K := K) (S := S) (V := V) (n := n) (fun h => ht (h.elim fun R h => ⟨R, h.1⟩)))
    have KD := hide (fun w => refDecode_no hs (fun R h => ht ⟨R, h⟩) w)
    clear ht
    go_enter Tryd.func47, Tryd.ntmps47
    go_wp2_with fail
    obtain ⟨w1, hw1, ⟨p0, p1, p2, p3, p4, p5⟩, HB1, hz1⟩ := unit_open w K S P V (.slice ao n cap) T
    rw [← hw1]
    clear hw1
    refine (unhide KD w1).mono ?_
    rintro e w2 ⟨rfl, hb2⟩
    have HB2 : Hid (Below w.heap.size w w2) := (unhide HB1).trans (hb2.mono (Nat.le_of_lt hz1))
    clear hb2
    go_wp2
    go_ret
    exact ⟨ret_bool (unhide HF).symm, unhide HB2⟩
  obtain ⟨R, ht⟩ := ht
  have KD := hide (fun w => refDecode_yes hs ht w)
  have HT := hide ht
  clear ht
  go_enter Tryd.func47, Tryd.ntmps47
  go_wp2_with fail
  obtain ⟨w1, hw1, h6, HB1, hz1⟩ := unit_open w K S P V (.slice ao n cap) T
  have p5 := h6.2.2.2.2.2
  have H6 := hide h6
  rw [← hw1]
  clear hw1 h6
  refine (unhide KD w1).mono ?_
  rintro e w2 ⟨v, rfl, ho, hb2⟩
  have HB2 : Hid (Below w.heap.size w w2) := (unhide HB1).trans (hb2.mono (Nat.le_of_lt hz1))
  have H62 := hide ((unhide H6).below hb2 hz1)
  have hz2 : w.heap.size < w2.heap.size := Nat.lt_of_lt_of_le hz1 hb2.size
  obtain ⟨ao', cap', rfl, hH, hlen, _, _⟩ := own_held ho
  have HH := hide hH
  unfold maxLen at hlen
  clear hb2 ho hH p5 H6 HB1
  go_wp2_with fail
  go_loopw [5] (fun i wr => ∃ k : Nat, k ≤ R.length ∧ i = .int .i64 k ∧ Hid (∀ j, j < k → RgIn K S V n (rg R j)) ∧ Below w2.heap.size w2 wr) (fun i _ => R.length - (intOf i).toNat)
  case atStart => exact ⟨0, Nat.zero_le _, rfl, fun j hj => by omega, Below.refl _ _⟩
  case round =>
    obtain ⟨k, hk, rfl, HC, hbel⟩ := hrel
    have hB := hbel.size
    have HBr : Hid (Below w.heap.size w wr) := (unhide HB2).trans (hbel.mono (by omega))
    by_cases hlt : k < R.length
    case neg =>
      obtain rfl : k = R.length := by omega
      have HF := hide (tabB_yes (K := K) (S := S) (V := V) (n := n) ⟨R, unhide HT, unhide HC⟩)
      clear HC
      go_wp2
      go_ret
      exact ⟨ret_bool (unhide HF).symm, unhide HBr⟩
    obtain ⟨b, off, rfl, hb, hL⟩ : ∃ b off, ao' = some ⟨b, off, none⟩ ∧ b < w2.heap.size ∧ Lie w2 b off R := by
      rcases unhide HH with h | h
      · subst h; exact absurd hlt (by simp)
      · exact h
    obtain ⟨r, hr⟩ : ∃ r, r = rg R k := ⟨_, rfl⟩
    have hA := (hL k hlt).below hbel hb
    rw [← hr] at hA
    obtain ⟨c0, c1, c2, c3, c4⟩ := hA
    obtain ⟨m0, m1, m2, m3, m4, m5⟩ := (unhide H62).below hbel hz2
    have hbr : b < wr.heap.size := by omega
    have h2r : w.heap.size < wr.heap.size := by omega
    have HR := hide hr
    have hYes : Hid (RgIn K S V n r → ∀ j, j < k + 1 → RgIn K S V n (rg R j)) := fun h0 j hj => by
      by_cases e : j = k
      · subst e; rw [← unhide HR]; exact h0
      · exact unhide HC j (by omega)
    have hNo : Hid (rgIn K S V n r = false → tabB T K S V n = false) := fun hf => tabB_no (fun h => by
        obtain ⟨R', h1, h2⟩ := h
        obtain rfl := tab_uniq (unhide HT) h1
        have h3 := h2 k hlt
        rw [← unhide HR] at h3
        rw [rgIn_yes h3] at hf; cases hf)
    clear hr hL
    obtain ⟨v, f, t, kd, a⟩ := r
    have hc := rg_cases K S V n ⟨v, f, t, kd, a⟩
    simp only at hc c0 c1 c2 c3 c4
    rcases hc with ⟨g1, hf⟩ | ⟨g1, g2, hf⟩ | ⟨g1, g2, rfl, g4, hf⟩ | ⟨g1, g2, rfl, g4, hf⟩ | ⟨g1, g2, rfl, g4, hf⟩ | ⟨g1, g2, rfl, g4, hf⟩ | ⟨g1, g2, g3, g4, hf⟩
    · have HF := hide (unhide hNo hf)
      clear hf
      go_wp2
      go_ret
      exact ⟨ret_bool (unhide HF).symm, (unhide HBr).alloc (by omega) _⟩
    · have HF := hide (unhide hNo hf)
      clear hf
      go_wp2
      go_ret
      exact ⟨ret_bool (unhide HF).symm, (unhide HBr).alloc (by omega) _⟩
    · have HF := hide (unhide hNo hf)
      clear hf
      go_wp2
      go_ret
      exact ⟨ret_bool (unhide HF).symm, (unhide HBr).alloc (by omega) _⟩
    · have hnx := hide (unhide hYes (rgIn_true hf))
      clear hf
      go_wp2
      go_roundw
      case rel => exact ⟨k + 1, by omega, by go_num, unhide hnx, hbel.alloc hB _⟩
      case measure => simp [intOf]; omega
    · have HF := hide (unhide hNo hf)
      clear hf
      go_wp2
      go_ret
      exact ⟨ret_bool (unhide HF).symm, (unhide HBr).alloc (by omega) _⟩
    · have hnx := hide (unhide hYes (rgIn_true hf))
      clear hf
      go_wp2
      go_roundw
      case rel => exact ⟨k + 1, by omega, by go_num, unhide hnx, hbel.alloc hB _⟩
      case measure => simp [intOf]; omega
    · have hnx := hide (unhide hYes (rgIn_true hf))
      clear hf
      go_wp2
      go_roundw
      case rel => exact ⟨k + 1, by omega, by go_num, unhide hnx, hbel.alloc hB _⟩
      case measure => simp [intOf]; omega
end Go.Proofs.YtoepcplbpochpaaDoor

/-
  What lodgeref.ops computes: which Ops there are, of a program or of a unit.
-/
namespace Go.Proofs.YtoepcplbpochpaaDoor
open Go.RowKit

theorem make17 (w : World) : (Instr.makeSlice 59 (.int .i64 17) (.int .i64 17)).run Tryd.prog w = .ok (.slice (some ⟨w.heap.size, 0, none⟩) 17 17)
    (w.alloc (.cells #[.bool false, .bool false, .bool false, .bool false, .bool false, .bool false, .bool false, .bool false, .bool false, .bool false, .bool false, .bool false, .bool false, .bool false, .bool false, .bool false, .bool false] 4)) := by kernel_rfl

set_option maxRecDepth 100000 in
set_option maxHeartbeats 4000000 in
theorem ops_any (p : Bool) (w : World) :
    Calls Tryd.prog 44 #[.bool p] w fun e w' => e = .returned (.slice (some ⟨w.heap.size, 0, none⟩) 17 17) ∧ w' = w.alloc (.cells (opsA p) 4) := by
  have hmk := make17
  cases p
  all_goals
    go_enter Tryd.func44, Tryd.ntmps44
    go_wp2
    refine wp_loop_rounds 18 ?_
    iterate 17 (rw [rounds_succ]; go_wp2)
    rw [rounds_succ]
    go_wp2
    go_ret
    exact ⟨rfl, rfl⟩
end Go.Proofs.YtoepcplbpochpaaDoor

/-
  What lodgeref.Form and lodgeref.ops compute.
-/
namespace Go.Proofs.YtoepcplbpochpaaDoor
open Go.RowKit

set_option maxRecDepth 100000 in
set_option maxHeartbeats 4000000 in
theorem form_any (k : Nat) (hk : k < 17) (w : World) :
    Calls Tryd.prog 81 #[.int .i64 (k : Int)] w fun e w' => e = .returned (.string (formS k)) ∧ Below w.heap.size w w' := by
  rcases (show k = 0 ∨ k = 1 ∨ k = 2 ∨ k = 3 ∨ k = 4 ∨ k = 5 ∨ k = 6 ∨ k = 7 ∨ k = 8 ∨ k = 9 ∨ k = 10 ∨ k = 11 ∨ k = 12 ∨ k = 13 ∨ k = 14 ∨ k = 15 ∨ k = 16 by omega) with rfl | rfl | rfl | rfl | rfl | rfl | rfl | rfl | rfl | rfl | rfl | rfl | rfl | rfl | rfl | rfl | rfl
  all_goals
    go_enter Tryd.func81, Tryd.ntmps81
    go_wp2
    go_ret
    exact ⟨rfl, (Below.refl _ _).alloc (Nat.le_refl _) _⟩
end Go.Proofs.YtoepcplbpochpaaDoor
