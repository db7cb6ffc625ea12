/-
  Code that is the same, and results that are the same (lodgelaw.sameCode, sameResult); what a run owns is held.
-/
import Derived.Test.YtoepcplbpochpaaDoorSame
import Derived.Test.YtoepcplbpochpaaDoorRun
import Derived.Deep.QuietTactic
import Derived.BigQuiet
namespace Go.Proofs.YtoepcplbpochpaaDoor
open Go.RowKit

set_option maxRecDepth 100000 in
set_option maxHeartbeats 1000000 in
theorem sameCode_any (L : List In4) (ao bo : Option Addr) (c1 c2 : Nat) (w : World) (hA : HeldIns w ao L) (hB : HeldIns w bo L) (hlen : L.length ≤ 9223372036854775807) :
    Calls Tryd.prog 29 #[.slice ao L.length c1, .slice bo L.length c2] w fun e w' => e = .returned (.bool true) ∧ Below w.heap.size w w' := by
  go_enter Tryd.func29, Tryd.ntmps29
  go_wp2
  go_loopw [5] (fun i wr => ∃ k : Nat, k ≤ L.length ∧ i = .int .i64 k ∧ Below w.heap.size w wr) (fun i _ => L.length - (intOf i).toNat)
  case atStart => exact ⟨0, Nat.zero_le _, rfl, Below.refl _ _⟩
  case round =>
    obtain ⟨k, hk, rfl, hbel⟩ := hrel
    by_cases hlt : k < L.length
    · obtain ⟨b, off, rfl, hb, hl⟩ : ∃ b off, ao = some ⟨b, off, none⟩ ∧ b < w.heap.size ∧ LieI w b off L := by
        rcases hA with h | h
        · subst h; exact absurd hlt (by simp)
        · exact h
      obtain ⟨b2, off2, rfl, hb2, hl2⟩ : ∃ b off, bo = some ⟨b, off, none⟩ ∧ b < w.heap.size ∧ LieI w b off L := by
        rcases hB with h | h
        · subst h; exact absurd hlt (by simp)
        · exact h
      obtain ⟨a0, a1, a2, a3⟩ := (hl k hlt).below hbel hb
      obtain ⟨d0, d1, d2, d3⟩ := (hl2 k hlt).below hbel hb2
      have i3 : (k : Int) < (L.length : Int) := by omega
      go_wp2_with fail
      go_quiet (fail)
      go_wp2
      go_roundw
      case rel => exact ⟨k + 1, by omega, by go_num, below_drewN hbel _⟩
      case measure => simp [intOf]; omega
    · go_wp2
      go_ret
      exact ⟨rfl, hbel⟩

set_option maxRecDepth 100000 in
set_option maxHeartbeats 2000000 in
theorem sameResult_any (s : St) (b1 b2 : Nat) (v1 v2 : Value) (w : World) (h1 : ResOf w b1 v1 s) (h2 : ResOf w b2 v2 s) :
    Calls Tryd.prog 19 #[v1, v2] w fun e w' => e = .returned (.bool true) ∧ Below w.heap.size w w' := by
  obtain ⟨vo, vs, rfl, o1, s1⟩ := h1
  obtain ⟨vo', vs', rfl, o2, s2⟩ := h2
  obtain ⟨ao, co, rfl, hA, hl⟩ := own_heldI o1
  obtain ⟨bo, do', rfl, hB, _⟩ := own_heldI o2
  obtain ⟨as', cs, rfl, hC, hm⟩ := own_heldS s1
  obtain ⟨bs, ds, rfl, hD, _⟩ := own_heldS s2
  unfold maxLen at hl hm
  have K1 := hide (fun w (hA : HeldI w ao s.outs) (hB : HeldI w bo s.outs) => sameInts_any s.outs ao bo co do' w hA hB (by omega))
  have K2 := hide (fun w (hA : HeldS w as' s.stops) (hB : HeldS w bs s.stops) => sameSeen_any s.stops as' bs cs ds w hA hB (by omega))
  have HA := hide hA
  have HB := hide hB
  have HC := hide hC
  have HD := hide hD
  clear hA hB hC hD o1 o2 s1 s2
  go_enter Tryd.func19, Tryd.ntmps19
  go_wp2_with fail
  obtain ⟨w1, hw1⟩ : ∃ w1, w1 = (w.alloc (.cells #[.int .i64 s.kind, .int .i64 s.val, .int .i64 (s.steps : Int), .slice ao s.outs.length co, .slice as' s.stops.length cs] 37)).alloc (.cells #[.int .i64 s.kind, .int .i64 s.val, .int .i64 (s.steps : Int), .slice bo s.outs.length do', .slice bs s.stops.length ds] 37) := ⟨_, rfl⟩
  rw [← hw1]
  have hb1 : Below w.heap.size w w1 := by rw [hw1]; exact ((Below.refl _ _).alloc (Nat.le_refl _) _).alloc (by simp) _
  have hz1 : w1.heap.size = w.heap.size + 2 := by rw [hw1]; simp
  have p4 : w1.cell? ⟨w.heap.size, 4, none⟩ = some (.slice as' s.stops.length cs) := by
    rw [hw1, World.cell?_alloc_past (hn := by simp), World.cell?_alloc_at (hn := rfl)]; rfl
  have q4 : w1.cell? ⟨w.heap.size + 1, 4, none⟩ = some (.slice bs s.stops.length ds) := by
    rw [hw1, World.cell?_alloc_at (hn := by simp)]; rfl
  clear hw1
  refine (unhide K1 w1 ((unhide HA).below hb1) ((unhide HB).below hb1)).mono ?_
  rintro e w2 ⟨rfl, hb2⟩
  have p4' := (hb2.cell (p := ⟨w.heap.size, 4, none⟩) (show w.heap.size < w1.heap.size by omega)).trans p4
  have q4' := (hb2.cell (p := ⟨w.heap.size + 1, 4, none⟩) (show w.heap.size + 1 < w1.heap.size by omega)).trans q4
  have HB2 : Hid (Below w.heap.size w w2) := hb1.trans (hb2.mono (by omega))
  clear hb1 hb2 p4 q4
  go_wp2_with fail
  refine (unhide K2 w2 ((unhide HC).below (unhide HB2)) ((unhide HD).below (unhide HB2))).mono ?_
  rintro e w3 ⟨rfl, hb3⟩
  have HB3 : Hid (Below w.heap.size w w3) := (unhide HB2).trans (hb3.mono (unhide HB2).size)
  clear hb3
  go_wp2_with fail
  go_ret
  exact ⟨rfl, unhide HB3⟩
end Go.Proofs.YtoepcplbpochpaaDoor
