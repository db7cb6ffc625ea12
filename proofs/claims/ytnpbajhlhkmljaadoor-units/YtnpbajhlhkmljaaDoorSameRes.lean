/-
  Code that is the same, and results that are the same (lodgelaw.sameCode, sameResult); what a run owns is held.
-/
import Derived.Test.YtnpbajhlhkmljaaDoorSame
import Derived.Test.YtnpbajhlhkmljaaDoorRun
import Derived.Deep.QuietTactic
import Derived.BigQuiet
namespace Go.Proofs.YtnpbajhlhkmljaaDoor
open Go.RowKit

set_option maxRecDepth 100000 in
set_option maxHeartbeats 1000000 in
theorem sameCode_any (L : List In4) (ao bo : Option Addr) (c1 c2 : Nat) (w : World) (hA : HeldIns w ao L) (hB : HeldIns w bo L) (hlen : L.length ≤ 9223372036854775807) :
    Calls Tryd.prog 36 #[.slice ao L.length c1, .slice bo L.length c2] w fun e w' => e = .returned (.bool true) ∧ Below w.heap.size w w' := by
  go_enter Tryd.func36, Tryd.ntmps36
  go_wp2
  go_loopw [5] (fun i wr => ∃ k : Nat, k ≤ L.length ∧ i = .int .i64 k ∧ Below w.heap.size w wr) (fun i _ => L.length - (intOf i).toNat)
  case atStart => exact ⟨0, Nat.zero_le _, rfl, Below.refl _ _⟩
  case round =>
    obtain ⟨k, hk, rfl, hbel⟩ := hrel
    by_cases hlt : k < L.length
    · obtain ⟨b, off, rfl, hb, hl⟩ : ∃ b off, ao = some ⟨b, off, none⟩ ∧ b < w.heap.size ∧ LieI w b off L := by
        rcases hA with h | h
        · subst h; exact absurd hlt (by simp)
        · exact h
      obtain ⟨b2, off2, rfl, hb2, hl2⟩ : ∃ b off, bo = some ⟨b, off, none⟩ ∧ b < w.heap.size ∧ LieI w b off L := by
        rcases hB with h | h
        · subst h; exact absurd hlt (by simp)
        · exact h
      obtain ⟨a0, a1, a2, a3⟩ := (hl k hlt).below hbel hb
      obtain ⟨d0, d1, d2, d3⟩ := (hl2 k hlt).below hbel hb2
      have i3 : (k : Int) < (L.length : Int) := by omega
      go_wp2_with fail
      go_quiet (fail)
      go_wp2
      go_roundw
      case rel => exact ⟨k + 1, by omega, by go_num, below_drewN hbel _⟩
      case measure => simp [intOf]; omega
    · go_wp2
      go_ret
      exact ⟨rfl, hbel⟩

theorem snCells_at : ∀ (l : List Sn) (i : Nat), i < l.length → ∀ j, j < 5 → (snCells l)[i * 5 + j]? = (snAt l i).cells[j]?
  | [], i, h, _, _ => absurd h (by simp)
  | r :: R, 0, _, j, hj => by
    unfold snCells; rw [List.flatMap_cons, Nat.zero_mul, Nat.zero_add, List.getElem?_append_left (by exact hj)]; rfl
  | r :: R, i + 1, h, j, hj => by
    have ih := snCells_at R i (by simpa using h) j hj
    unfold snCells at *
    rw [List.flatMap_cons, List.getElem?_append_right (by show 5 ≤ _; omega), show (i + 1) * 5 + j - r.cells.length = i * 5 + j by show _ - 5 = _; omega, ih]
    rfl
theorem own_heldI {w : World} {base : Nat} {v : Value} {xs : List Int} (h : w.ownsRow base 3 1 v xs.length (intCells xs)) : ∃ ao cap, v = .slice ao xs.length cap ∧ HeldI w ao xs ∧ xs.length ≤ maxLen := by
  rcases h.2 with ⟨rfl, h0⟩ | ⟨g, cap, cur, rfl, h2, h3, h4, h5, h6, h7⟩
  · have : xs = [] := List.length_eq_zero_iff.1 h0
    subst this
    exact ⟨none, 0, rfl, .inl rfl, by decide⟩
  · refine ⟨some ⟨g, 0, none⟩, cap, rfl, .inr ⟨g, 0, rfl, (Array.getElem?_eq_some_iff.1 h3).1, fun i hi => ?_⟩, by omega⟩
    rw [Nat.zero_add, h.cellAt i (by omega)]
    unfold intCells nth
    rw [List.getElem?_map, List.getElem?_eq_getElem hi, List.getD_eq_getElem?_getD, List.getElem?_eq_getElem hi]
    rfl
theorem own_heldS {w : World} {base : Nat} {v : Value} {l : List Sn} (h : w.ownsRow base 74 5 v l.length (snCells l)) : ∃ ao cap, v = .slice ao l.length cap ∧ HeldS w ao l ∧ l.length ≤ maxLen := by
  rcases h.2 with ⟨rfl, h0⟩ | ⟨g, cap, cur, rfl, h2, h3, h4, h5, h6, h7⟩
  · have : l = [] := List.length_eq_zero_iff.1 h0
    subst this
    exact ⟨none, 0, rfl, .inl rfl, by decide⟩
  · refine ⟨some ⟨g, 0, none⟩, cap, rfl, .inr ⟨g, 0, rfl, (Array.getElem?_eq_some_iff.1 h3).1, fun i hi => ?_⟩, by omega⟩
    have key : ∀ j, j < 5 → w.cell? ⟨g, i * 5 + j, none⟩ = (snAt l i).cells[j]? := fun j hj => by
      rw [h.cellAt (i * 5 + j) (by omega), snCells_at l i hi j hj]
    rw [Nat.zero_add]
    refine ⟨key 0 (by decide), fun j hj => ?_⟩
    rcases (show j = 0 ∨ j = 1 ∨ j = 2 ∨ j = 3 by omega) with rfl | rfl | rfl | rfl
    · exact key 1 (by decide)
    · exact key 2 (by decide)
    · exact key 3 (by decide)
    · exact key 4 (by decide)
theorem HeldS.below {w w' : World} {ao : Option Addr} {l : List Sn} (h : HeldS w ao l) (hb : Below w.heap.size w w') : HeldS w' ao l := by
  rcases h with h | ⟨b, off, e, hB, hL⟩
  · exact .inl h
  · exact .inr ⟨b, off, e, Nat.lt_of_lt_of_le hB hb.size, fun i hi => ⟨(hb.cell (p := ⟨b, off + i * 5, none⟩) hB).trans (hL i hi).1, fun j hj => (hb.cell (p := ⟨b, off + i * 5 + 1 + j, none⟩) hB).trans ((hL i hi).2 j hj)⟩⟩

set_option maxRecDepth 100000 in
set_option maxHeartbeats 2000000 in
theorem sameResult_any (s : St) (b1 b2 : Nat) (v1 v2 : Value) (w : World) (h1 : ResOf w b1 v1 s) (h2 : ResOf w b2 v2 s) :
    Calls Tryd.prog 14 #[v1, v2] w fun e w' => e = .returned (.bool true) ∧ Below w.heap.size w w' := by
  obtain ⟨vo, vs, rfl, o1, s1⟩ := h1
  obtain ⟨vo', vs', rfl, o2, s2⟩ := h2
  obtain ⟨ao, co, rfl, hA, hl⟩ := own_heldI o1
  obtain ⟨bo, do', rfl, hB, _⟩ := own_heldI o2
  obtain ⟨as', cs, rfl, hC, hm⟩ := own_heldS s1
  obtain ⟨bs, ds, rfl, hD, _⟩ := own_heldS s2
  unfold maxLen at hl hm
  have K1 := hide (fun w (hA : HeldI w ao s.outs) (hB : HeldI w bo s.outs) => sameInts_any s.outs ao bo co do' w hA hB (by omega))
  have K2 := hide (fun w (hA : HeldS w as' s.stops) (hB : HeldS w bs s.stops) => sameSeen_any s.stops as' bs cs ds w hA hB (by omega))
  have HA := hide hA
  have HB := hide hB
  have HC := hide hC
  have HD := hide hD
  clear hA hB hC hD o1 o2 s1 s2
  go_enter Tryd.func14, Tryd.ntmps14
  go_wp2_with fail
  obtain ⟨w1, hw1⟩ : ∃ w1, w1 = (w.alloc (.cells #[.int .i64 s.kind, .int .i64 s.val, .int .i64 (s.steps : Int), .slice ao s.outs.length co, .slice as' s.stops.length cs] 37)).alloc (.cells #[.int .i64 s.kind, .int .i64 s.val, .int .i64 (s.steps : Int), .slice bo s.outs.length do', .slice bs s.stops.length ds] 37) := ⟨_, rfl⟩
  rw [← hw1]
  have hb1 : Below w.heap.size w w1 := by rw [hw1]; exact ((Below.refl _ _).alloc (Nat.le_refl _) _).alloc (by simp) _
  have hz1 : w1.heap.size = w.heap.size + 2 := by rw [hw1]; simp
  have p4 : w1.cell? ⟨w.heap.size, 4, none⟩ = some (.slice as' s.stops.length cs) := by
    rw [hw1, World.cell?_alloc_past (hn := by simp), World.cell?_alloc_at (hn := rfl)]; rfl
  have q4 : w1.cell? ⟨w.heap.size + 1, 4, none⟩ = some (.slice bs s.stops.length ds) := by
    rw [hw1, World.cell?_alloc_at (hn := by simp)]; rfl
  clear hw1
  refine (unhide K1 w1 ((unhide HA).below hb1) ((unhide HB).below hb1)).mono ?_
  rintro e w2 ⟨rfl, hb2⟩
  have p4' := (hb2.cell (p := ⟨w.heap.size, 4, none⟩) (show w.heap.size < w1.heap.size by omega)).trans p4
  have q4' := (hb2.cell (p := ⟨w.heap.size + 1, 4, none⟩) (show w.heap.size + 1 < w1.heap.size by omega)).trans q4
  have HB2 : Hid (Below w.heap.size w w2) := hb1.trans (hb2.mono (by omega))
  clear hb1 hb2 p4 q4
  go_wp2_with fail
  refine (unhide K2 w2 ((unhide HC).below (unhide HB2)) ((unhide HD).below (unhide HB2))).mono ?_
  rintro e w3 ⟨rfl, hb3⟩
  have HB3 : Hid (Below w.heap.size w w3) := (unhide HB2).trans (hb3.mono (unhide HB2).size)
  clear hb3
  go_wp2_with fail
  go_ret
  exact ⟨rfl, unhide HB3⟩
end Go.Proofs.YtnpbajhlhkmljaaDoor
