/-
  A run's mathematics once more: what a step makes of the end, the outputs and what was seen; numbers that are copied.
-/
import Derived.Test.YtoepcplbpochpaaDoorUnit19
import Derived.Test.YtoepcplbpochpaaDoorUnit32
import Derived.Test.YtoepcplbpochpaaDoorUnit2
import Derived.Deep.RegionHeld3
import Derived.Handy
import Derived.Deep.QuietTactic
import Derived.BigQuiet

namespace Go.Proofs.YtoepcplbpochpaaDoor
open Go.RowKit

theorem pre_kind (x : In4) (s : St) : (preSt x s).kind = s.kind := by
  unfold preSt
  repeat' split
  all_goals rfl
theorem step_kind (x : In4) (s : St) (h : 0 ≤ s.kind) : 0 ≤ (stepSt x s).kind := by
  have h' : 0 ≤ (preSt x s).kind := by rw [pre_kind]; exact h
  unfold stepSt doSt
  repeat' split
  all_goals first | exact h' | (show (0 : Int) ≤ 0; decide) | (unfold St.reckon; split; (show (0 : Int) ≤ 1; decide); exact h')
theorem step_outs9 (d a b : Int) (s : St) : (stepSt ⟨9, d, a, b⟩ s).outs = s.outs ++ [s.regs a.toNat] := rfl
theorem step_outs {op d a b : Int} {s : St} (h : op ≠ 9) : (stepSt ⟨op, d, a, b⟩ s).outs = s.outs := by
  have hp : (preSt ⟨op, d, a, b⟩ s).outs = s.outs := by
    unfold preSt
    repeat' split
    all_goals rfl
  rw [← hp]
  unfold stepSt doSt
  simp only
  repeat' split
  all_goals first | rfl | (exfalso; omega) | (exact reckon_outs _ _ _ _ _)
theorem step_stops11 (d a b : Int) (s : St) : (stepSt ⟨11, d, a, b⟩ s).stops = s.stops ++ [⟨a, s.tell 0, s.tell 1, s.tell 2, s.tell 3⟩] := rfl
theorem step_stops {op d a b : Int} {s : St} (h : op ≠ 11) : (stepSt ⟨op, d, a, b⟩ s).stops = s.stops := by
  have hp : (preSt ⟨op, d, a, b⟩ s).stops = s.stops := by
    unfold preSt
    simp only
    repeat' split
    all_goals first | rfl | (exfalso; omega)
  rw [← hp]
  unfold stepSt doSt
  simp only
  repeat' split
  all_goals first | rfl | (exact reckon_stops _ _ _ _ _)

theorem Tryd.size3 : (Tryd.prog.info? 3).map (·.size) = some 1 := by kernel_rfl
theorem mom_of_blocks {w : World} {M G H R V : Nat} {xs : List Int} {cg ch : Array Value} (hM : w.heap[M]? = some (.cells #[.int .i64 0, .slice (some ⟨G, 0, none⟩) R R, .slice none 0 0, .slice (some ⟨H, 0, none⟩) V V, .int .i64 (-1), .int .i64 0] 90 (0, 0)))
    (hG : w.heap[G]? = some (.cells cg 3 (0, 0))) (hH : w.heap[H]? = some (.cells ch 3 (0, 0))) (h1 : ∀ i, i < R → cg[i]? = some (.int .i64 (nth xs i))) (h2 : ∀ i, i < V → ch[i]? = some (.int .i64 (-1))) (n1 : M ≠ G) (n2 : M ≠ H) (n3 : G ≠ H) : MomB w M G H R V (st0 xs) :=
  ⟨(cell_of_row w M 0 _ 90 (0, 0) hM).trans rfl, (cell_of_row w M 1 _ 90 (0, 0) hM).trans rfl, (cell_of_row w M 3 _ 90 (0, 0) hM).trans rfl, (cell_of_row w M 4 _ 90 (0, 0) hM).trans rfl, (cell_of_row w M 5 _ 90 (0, 0) hM).trans rfl,
   fun i hi => (cell_of_row w G i _ 3 (0, 0) hG).trans (h1 i hi), fun i hi => (cell_of_row w H i _ 3 (0, 0) hH).trans (h2 i hi), fun o => by simp [World.frozen?, hM], fun o => by simp [World.frozen?, hG], fun o => by simp [World.frozen?, hH],
   (Array.getElem?_eq_some_iff.1 hG).1, (Array.getElem?_eq_some_iff.1 hH).1, n1, n2, n3, .inr rfl⟩
theorem held_ints {w : World} {ao : Option Addr} {xs : List Int} (h : HeldI w ao xs) : 0 < xs.length → ∃ ad, ao = some ad ∧ ∀ j v, (intCells xs)[j]? = some v → w.cell? (ad.add j) = some v := fun h0 => by
  rcases h with h | ⟨b, off, e, _, hc⟩
  · subst h; exact absurd h0 (by simp)
  · refine ⟨_, e, fun j v hv => ?_⟩
    have hj : j < xs.length := by
      rcases Nat.lt_or_ge j xs.length with h | h
      · exact h
      · rw [List.getElem?_eq_none (by rw [intCells_len]; exact h)] at hv; cases hv
    have hadd : (⟨b, off, none⟩ : Addr).add j = ⟨b, off + j, none⟩ := by unfold Addr.add; split <;> simp_all
    rw [hadd, hc j hj]
    unfold intCells at hv
    rw [List.getElem?_map, List.getElem?_eq_getElem hj] at hv
    unfold nth
    rw [List.getD_eq_getElem?_getD, List.getElem?_eq_getElem hj]
    exact hv
theorem copied_regs {xs : List Int} {cs : Array Value} {n : Nat} (hc : ∀ i, i < n → cs[i]? = some (.int .i64 0)) : ∀ i, i < n → (intCells xs ++ cs.toList.drop (intCells xs).length).toArray[i]? = some (.int .i64 (nth xs i)) := fun i hi => by
  rw [List.getElem?_toArray]
  rcases Nat.lt_or_ge i xs.length with h | h
  · rw [List.getElem?_append_left (by rw [intCells_len]; exact h)]
    unfold intCells nth
    rw [List.getElem?_map, List.getElem?_eq_getElem h, List.getD_eq_getElem?_getD, List.getElem?_eq_getElem h]
    rfl
  · rw [List.getElem?_append_right (by rw [intCells_len]; exact h), List.getElem?_drop, intCells_len, show xs.length + (i - xs.length) = i by omega, nth_past xs h, Array.getElem?_toList]
    exact hc i hi
end Go.Proofs.YtoepcplbpochpaaDoor

/-
  Lists of what was seen at Stops, in memory; what a run owns is held.
-/
namespace Go.Proofs.YtoepcplbpochpaaDoor
open Go.RowKit

/-- A list of what was seen lies somewhere. -/
def snAt (l : List Sn) (i : Nat) : Sn := l.getD i ⟨0, 0, 0, 0, 0⟩
def Sn.v (x : Sn) (j : Nat) : Int := if j = 0 then x.v0 else if j = 1 then x.v1 else if j = 2 then x.v2 else x.v3
def SeenC (w : World) (b o : Nat) (x : Sn) : Prop := w.cell? ⟨b, o, none⟩ = some (.int .i64 x.no) ∧ ∀ j, j < 4 → w.cell? ⟨b, o + 1 + j, none⟩ = some (.int .i64 (x.v j))
def HeldS (w : World) (ao : Option Addr) (l : List Sn) : Prop := l = [] ∨ ∃ b off, ao = some ⟨b, off, none⟩ ∧ b < w.heap.size ∧ ∀ i, i < l.length → SeenC w b (off + i * 5) (snAt l i)

theorem snCells_at : ∀ (l : List Sn) (i : Nat), i < l.length → ∀ j, j < 5 → (snCells l)[i * 5 + j]? = (snAt l i).cells[j]?
  | [], i, h, _, _ => absurd h (by simp)
  | r :: R, 0, _, j, hj => by
    unfold snCells; rw [List.flatMap_cons, Nat.zero_mul, Nat.zero_add, List.getElem?_append_left (by exact hj)]; rfl
  | r :: R, i + 1, h, j, hj => by
    have ih := snCells_at R i (by simpa using h) j hj
    unfold snCells at *
    rw [List.flatMap_cons, List.getElem?_append_right (by show 5 ≤ _; omega), show (i + 1) * 5 + j - r.cells.length = i * 5 + j by show _ - 5 = _; omega, ih]
    rfl
theorem own_heldI {w : World} {base : Nat} {v : Value} {xs : List Int} (h : w.ownsRow base 3 1 v xs.length (intCells xs)) : ∃ ao cap, v = .slice ao xs.length cap ∧ HeldI w ao xs ∧ xs.length ≤ maxLen := by
  rcases h.2 with ⟨rfl, h0⟩ | ⟨g, cap, cur, rfl, h2, h3, h4, h5, h6, h7⟩
  · have : xs = [] := List.length_eq_zero_iff.1 h0
    subst this
    exact ⟨none, 0, rfl, .inl rfl, by decide⟩
  · refine ⟨some ⟨g, 0, none⟩, cap, rfl, .inr ⟨g, 0, rfl, (Array.getElem?_eq_some_iff.1 h3).1, fun i hi => ?_⟩, by omega⟩
    rw [Nat.zero_add, h.cellAt i (by omega)]
    unfold intCells nth
    rw [List.getElem?_map, List.getElem?_eq_getElem hi, List.getD_eq_getElem?_getD, List.getElem?_eq_getElem hi]
    rfl
theorem own_heldS {w : World} {base : Nat} {v : Value} {l : List Sn} (h : w.ownsRow base 63 5 v l.length (snCells l)) : ∃ ao cap, v = .slice ao l.length cap ∧ HeldS w ao l ∧ l.length ≤ maxLen := by
  rcases h.2 with ⟨rfl, h0⟩ | ⟨g, cap, cur, rfl, h2, h3, h4, h5, h6, h7⟩
  · have : l = [] := List.length_eq_zero_iff.1 h0
    subst this
    exact ⟨none, 0, rfl, .inl rfl, by decide⟩
  · refine ⟨some ⟨g, 0, none⟩, cap, rfl, .inr ⟨g, 0, rfl, (Array.getElem?_eq_some_iff.1 h3).1, fun i hi => ?_⟩, by omega⟩
    have key : ∀ j, j < 5 → w.cell? ⟨g, i * 5 + j, none⟩ = (snAt l i).cells[j]? := fun j hj => by
      rw [h.cellAt (i * 5 + j) (by omega), snCells_at l i hi j hj]
    rw [Nat.zero_add]
    refine ⟨key 0 (by decide), fun j hj => ?_⟩
    rcases (show j = 0 ∨ j = 1 ∨ j = 2 ∨ j = 3 by omega) with rfl | rfl | rfl | rfl
    · exact key 1 (by decide)
    · exact key 2 (by decide)
    · exact key 3 (by decide)
    · exact key 4 (by decide)
theorem HeldS.below {w w' : World} {ao : Option Addr} {l : List Sn} (h : HeldS w ao l) (hb : Below w.heap.size w w') : HeldS w' ao l := by
  rcases h with h | ⟨b, off, e, hB, hL⟩
  · exact .inl h
  · exact .inr ⟨b, off, e, Nat.lt_of_lt_of_le hB hb.size, fun i hi => ⟨(hb.cell (p := ⟨b, off + i * 5, none⟩) hB).trans (hL i hi).1, fun j hj => (hb.cell (p := ⟨b, off + i * 5 + 1 + j, none⟩) hB).trans ((hL i hi).2 j hj)⟩⟩

end Go.Proofs.YtoepcplbpochpaaDoor

/-
  Lists that hold the same are the same (lodgelaw.sameInts, sameSeen, sameCode, sameResult).
-/
namespace Go.Proofs.YtoepcplbpochpaaDoor
open Go.RowKit

set_option maxRecDepth 100000 in
set_option maxHeartbeats 2000000 in
theorem sameInts_any (xs : List Int) (ao bo : Option Addr) (c1 c2 : Nat) (w : World) (hA : HeldI w ao xs) (hB : HeldI w bo xs) (hl : xs.length ≤ 9223372036854775807) :
    Calls Tryd.prog 55 #[.slice ao xs.length c1, .slice bo xs.length c2] w fun e w' => e = .returned (.bool true) ∧ Below w.heap.size w w' := by
  have HA := hide hA
  have HB := hide hB
  clear hA hB
  go_enter Tryd.func55, Tryd.ntmps55
  go_wp2
  go_loopw [5] (fun i wr => ∃ k : Nat, k ≤ xs.length ∧ i = .int .i64 k ∧ Hid (Below w.heap.size w wr)) (fun i _ => xs.length - (intOf i).toNat)
  case atStart => exact ⟨0, Nat.zero_le _, rfl, Below.refl _ _⟩
  case round =>
    obtain ⟨k, hk, rfl, HW⟩ := hrel
    by_cases hlt : k < xs.length
    · obtain ⟨b1, o1, rfl, h1, g1⟩ : ∃ b off, ao = some ⟨b, off, none⟩ ∧ b < w.heap.size ∧ ∀ i, i < xs.length → w.cell? ⟨b, off + i, none⟩ = some (.int .i64 (nth xs i)) := by
        rcases unhide HA with h | h
        · subst h; exact absurd hlt (by simp)
        · exact h
      obtain ⟨b2, o2, rfl, h2, g2⟩ : ∃ b off, bo = some ⟨b, off, none⟩ ∧ b < w.heap.size ∧ ∀ i, i < xs.length → w.cell? ⟨b, off + i, none⟩ = some (.int .i64 (nth xs i)) := by
        rcases unhide HB with h | h
        · subst h; exact absurd hlt (by simp)
        · exact h
      obtain ⟨y, hy⟩ : ∃ y, y = nth xs k := ⟨_, rfl⟩
      have d1 : wr.cell? ⟨b1, o1 + k, none⟩ = some (.int .i64 y) := by rw [hy]; exact ((unhide HW).cell (p := ⟨b1, o1 + k, none⟩) h1).trans (g1 k hlt)
      have d2 : wr.cell? ⟨b2, o2 + k, none⟩ = some (.int .i64 y) := by rw [hy]; exact ((unhide HW).cell (p := ⟨b2, o2 + k, none⟩) h2).trans (g2 k hlt)
      have k0 : (0 : Int) ≤ (k : Int) := by omega
      have k1 : (k : Int) < (xs.length : Int) := by omega
      clear g1 g2 hy
      go_wp2_with fail
      go_region_held3 (fun w' => w'.cell? ⟨b1, o1 + k, none⟩ = some (.int .i64 y) ∧ w'.cell? ⟨b2, o2 + k, none⟩ = some (.int .i64 y)) (simp [*]) (fail)
      go_wp2
      go_roundw
      case rel => exact ⟨k + 1, by omega, by go_num, (unhide HW).drew⟩
      case measure => simp [intOf]; omega
    · obtain rfl : k = xs.length := by omega
      go_wp2
      go_ret
      exact ⟨rfl, unhide HW⟩

set_option maxRecDepth 100000 in
set_option maxHeartbeats 2000000 in
theorem sameSeen_any (l : List Sn) (ao bo : Option Addr) (c1 c2 : Nat) (w : World) (hA : HeldS w ao l) (hB : HeldS w bo l) (hl : l.length ≤ 9223372036854775807) :
    Calls Tryd.prog 56 #[.slice ao l.length c1, .slice bo l.length c2] w fun e w' => e = .returned (.bool true) ∧ Below w.heap.size w w' := by
  have HA := hide hA
  have HB := hide hB
  clear hA hB
  go_enter Tryd.func56, Tryd.ntmps56
  go_wp2
  go_loopw [5] (fun i wr => ∃ k : Nat, k ≤ l.length ∧ i = .int .i64 k ∧ Hid (Below w.heap.size w wr)) (fun i _ => l.length - (intOf i).toNat)
  case atStart => exact ⟨0, Nat.zero_le _, rfl, Below.refl _ _⟩
  case round =>
    obtain ⟨k, hk, rfl, HW⟩ := hrel
    by_cases hlt : k < l.length
    · obtain ⟨b1, o1, rfl, h1, g1⟩ : ∃ b off, ao = some ⟨b, off, none⟩ ∧ b < w.heap.size ∧ ∀ i, i < l.length → SeenC w b (off + i * 5) (snAt l i) := by
        rcases unhide HA with h | h
        · subst h; exact absurd hlt (by simp)
        · exact h
      obtain ⟨b2, o2, rfl, h2, g2⟩ : ∃ b off, bo = some ⟨b, off, none⟩ ∧ b < w.heap.size ∧ ∀ i, i < l.length → SeenC w b (off + i * 5) (snAt l i) := by
        rcases unhide HB with h | h
        · subst h; exact absurd hlt (by simp)
        · exact h
      obtain ⟨x, hx⟩ : ∃ x, x = snAt l k := ⟨_, rfl⟩
      have A1 := hide (g1 k hlt)
      have A2 := hide (g2 k hlt)
      rw [← hx] at A1 A2
      have d1 : wr.cell? ⟨b1, o1 + k * 5, none⟩ = some (.int .i64 x.no) := ((unhide HW).cell (p := ⟨b1, o1 + k * 5, none⟩) h1).trans (unhide A1).1
      have d2 : wr.cell? ⟨b2, o2 + k * 5, none⟩ = some (.int .i64 x.no) := ((unhide HW).cell (p := ⟨b2, o2 + k * 5, none⟩) h2).trans (unhide A2).1
      have k0 : (0 : Int) ≤ (k : Int) := by omega
      have k1 : (k : Int) < (l.length : Int) := by omega
      clear g1 g2 hx
      go_wp2_with fail
      go_region_held3 (fun w' => w'.cell? ⟨b1, o1 + k * 5, none⟩ = some (.int .i64 x.no) ∧ w'.cell? ⟨b2, o2 + k * 5, none⟩ = some (.int .i64 x.no)) (simp [*]) (fail)
      have HW2 : Hid (Below w.heap.size w wr.drew) := (unhide HW).drew
      clear d1 d2 HW
      obtain ⟨w4, hw4⟩ : ∃ w4, w4 = wr.drew := ⟨_, rfl⟩
      rw [← hw4] at HW2 ⊢
      clear hw4
      go_wp2_with fail
      go_loopw [6] (fun i wr => ∃ j : Nat, j ≤ 4 ∧ i = .int .i64 j ∧ Hid (Below w.heap.size w wr)) (fun i _ => 4 - (intOf i).toNat)
      case atStart => exact ⟨0, Nat.zero_le _, rfl, unhide HW2⟩
      case round =>
        obtain ⟨j, hj, rfl, HW⟩ := hrel
        by_cases hlj : j < 4
        · obtain ⟨y, hy⟩ : ∃ y, y = x.v j := ⟨_, rfl⟩
          have e1 : wr.cell? ⟨b1, o1 + k * 5 + 1 + j, none⟩ = some (.int .i64 y) := by rw [hy]; exact ((unhide HW).cell (p := ⟨b1, o1 + k * 5 + 1 + j, none⟩) h1).trans ((unhide A1).2 j hlj)
          have e2 : wr.cell? ⟨b2, o2 + k * 5 + 1 + j, none⟩ = some (.int .i64 y) := by rw [hy]; exact ((unhide HW).cell (p := ⟨b2, o2 + k * 5 + 1 + j, none⟩) h2).trans ((unhide A2).2 j hlj)
          have j0 : (0 : Int) ≤ (j : Int) := by omega
          have j4 : (j : Int) < 4 := by omega
          clear hy
          go_wp2_with fail
          go_region_held3 (fun w' => w'.cell? ⟨b1, o1 + k * 5 + 1 + j, none⟩ = some (.int .i64 y) ∧ w'.cell? ⟨b2, o2 + k * 5 + 1 + j, none⟩ = some (.int .i64 y)) (simp [*]) (fail)
          go_wp2
          go_roundw
          case rel => exact ⟨j + 1, by omega, by go_num, (unhide HW).drew⟩
          case measure => simp [intOf]; omega
        · obtain rfl : j = 4 := by omega
          go_wp2
          go_roundw
          case rel => exact ⟨k + 1, by omega, by go_num, unhide HW⟩
          case measure => simp [intOf]; omega
    · obtain rfl : k = l.length := by omega
      go_wp2
      go_ret
      exact ⟨rfl, unhide HW⟩
end Go.Proofs.YtoepcplbpochpaaDoor

/-
  Code that is the same, and results that are the same (lodgelaw.sameCode, sameResult); what a run owns is held.
-/
namespace Go.Proofs.YtoepcplbpochpaaDoor
open Go.RowKit

set_option maxRecDepth 100000 in
set_option maxHeartbeats 1000000 in
theorem sameCode_any (L : List In4) (ao bo : Option Addr) (c1 c2 : Nat) (w : World) (hA : HeldIns w ao L) (hB : HeldIns w bo L) (hlen : L.length ≤ 9223372036854775807) :
    Calls Tryd.prog 29 #[.slice ao L.length c1, .slice bo L.length c2] w fun e w' => e = .returned (.bool true) ∧ Below w.heap.size w w' := by
  go_enter Tryd.func29, Tryd.ntmps29
  go_wp2
  go_loopw [5] (fun i wr => ∃ k : Nat, k ≤ L.length ∧ i = .int .i64 k ∧ Below w.heap.size w wr) (fun i _ => L.length - (intOf i).toNat)
  case atStart => exact ⟨0, Nat.zero_le _, rfl, Below.refl _ _⟩
  case round =>
    obtain ⟨k, hk, rfl, hbel⟩ := hrel
    by_cases hlt : k < L.length
    · obtain ⟨b, off, rfl, hb, hl⟩ : ∃ b off, ao = some ⟨b, off, none⟩ ∧ b < w.heap.size ∧ LieI w b off L := by
        rcases hA with h | h
        · subst h; exact absurd hlt (by simp)
        · exact h
      obtain ⟨b2, off2, rfl, hb2, hl2⟩ : ∃ b off, bo = some ⟨b, off, none⟩ ∧ b < w.heap.size ∧ LieI w b off L := by
        rcases hB with h | h
        · subst h; exact absurd hlt (by simp)
        · exact h
      obtain ⟨a0, a1, a2, a3⟩ := (hl k hlt).below hbel hb
      obtain ⟨d0, d1, d2, d3⟩ := (hl2 k hlt).below hbel hb2
      have i3 : (k : Int) < (L.length : Int) := by omega
      go_wp2_with fail
      go_quiet (fail)
      go_wp2
      go_roundw
      case rel => exact ⟨k + 1, by omega, by go_num, below_drewN hbel _⟩
      case measure => simp [intOf]; omega
    · go_wp2
      go_ret
      exact ⟨rfl, hbel⟩

set_option maxRecDepth 100000 in
set_option maxHeartbeats 2000000 in
theorem sameResult_any (s : St) (b1 b2 : Nat) (v1 v2 : Value) (w : World) (h1 : ResOf w b1 v1 s) (h2 : ResOf w b2 v2 s) :
    Calls Tryd.prog 19 #[v1, v2] w fun e w' => e = .returned (.bool true) ∧ Below w.heap.size w w' := by
  obtain ⟨vo, vs, rfl, o1, s1⟩ := h1
  obtain ⟨vo', vs', rfl, o2, s2⟩ := h2
  obtain ⟨ao, co, rfl, hA, hl⟩ := own_heldI o1
  obtain ⟨bo, do', rfl, hB, _⟩ := own_heldI o2
  obtain ⟨as', cs, rfl, hC, hm⟩ := own_heldS s1
  obtain ⟨bs, ds, rfl, hD, _⟩ := own_heldS s2
  unfold maxLen at hl hm
  have K1 := hide (fun w (hA : HeldI w ao s.outs) (hB : HeldI w bo s.outs) => sameInts_any s.outs ao bo co do' w hA hB (by omega))
  have K2 := hide (fun w (hA : HeldS w as' s.stops) (hB : HeldS w bs s.stops) => sameSeen_any s.stops as' bs cs ds w hA hB (by omega))
  have HA := hide hA
  have HB := hide hB
  have HC := hide hC
  have HD := hide hD
  clear hA hB hC hD o1 o2 s1 s2
  go_enter Tryd.func19, Tryd.ntmps19
  go_wp2_with fail
  obtain ⟨w1, hw1⟩ : ∃ w1, w1 = (w.alloc (.cells #[.int .i64 s.kind, .int .i64 s.val, .int .i64 (s.steps : Int), .slice ao s.outs.length co, .slice as' s.stops.length cs] 37)).alloc (.cells #[.int .i64 s.kind, .int .i64 s.val, .int .i64 (s.steps : Int), .slice bo s.outs.length do', .slice bs s.stops.length ds] 37) := ⟨_, rfl⟩
  rw [← hw1]
  have hb1 : Below w.heap.size w w1 := by rw [hw1]; exact ((Below.refl _ _).alloc (Nat.le_refl _) _).alloc (by simp) _
  have hz1 : w1.heap.size = w.heap.size + 2 := by rw [hw1]; simp
  have p4 : w1.cell? ⟨w.heap.size, 4, none⟩ = some (.slice as' s.stops.length cs) := by
    rw [hw1, World.cell?_alloc_past (hn := by simp), World.cell?_alloc_at (hn := rfl)]; rfl
  have q4 : w1.cell? ⟨w.heap.size + 1, 4, none⟩ = some (.slice bs s.stops.length ds) := by
    rw [hw1, World.cell?_alloc_at (hn := by simp)]; rfl
  clear hw1
  refine (unhide K1 w1 ((unhide HA).below hb1) ((unhide HB).below hb1)).mono ?_
  rintro e w2 ⟨rfl, hb2⟩
  have p4' := (hb2.cell (p := ⟨w.heap.size, 4, none⟩) (show w.heap.size < w1.heap.size by omega)).trans p4
  have q4' := (hb2.cell (p := ⟨w.heap.size + 1, 4, none⟩) (show w.heap.size + 1 < w1.heap.size by omega)).trans q4
  have HB2 : Hid (Below w.heap.size w w2) := hb1.trans (hb2.mono (by omega))
  clear hb1 hb2 p4 q4
  go_wp2_with fail
  refine (unhide K2 w2 ((unhide HC).below (unhide HB2)) ((unhide HD).below (unhide HB2))).mono ?_
  rintro e w3 ⟨rfl, hb3⟩
  have HB3 : Hid (Below w.heap.size w w3) := (unhide HB2).trans (hb3.mono (unhide HB2).size)
  clear hb3
  go_wp2_with fail
  go_ret
  exact ⟨rfl, unhide HB3⟩
end Go.Proofs.YtoepcplbpochpaaDoor
