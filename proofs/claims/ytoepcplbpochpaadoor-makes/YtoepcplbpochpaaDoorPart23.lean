/-
  The caller writes a result full, with its spare room (lodgelaw.spent): nothing else is written.
-/
import Derived.Test.YtoepcplbpochpaaDoorPart8
import Derived.Deep.RegionHeld3
import Derived.Handy
import Derived.Deep.QuietTactic
import Derived.BigQuiet
import Derived.Test.YtoepcplbpochpaaDoorPart21
import Derived.Test.YtoepcplbpochpaaDoorPart16
import Derived.OwnWalk
import Derived.Test.YtoepcplbpochpaaDoorPart19
import Derived.Test.YtoepcplbpochpaaDoorPart1

namespace Go.Proofs.YtoepcplbpochpaaDoor
open Go.RowKit

/-- Which blocks a result's lists lie in. -/
def Rows2 (vo vs : Value) : Nat → Prop := fun k => some k = vo.ownBlock ∨ some k = vs.ownBlock
def SpentPost (w : World) (vo vs : Value) (e : Ending) (w' : World) : Prop := e = .returned (.tuple #[]) ∧ Keep (Rows2 vo vs) w w'
theorem row_set {w : World} {g o n : Nat} {t : TypeId} {v : Value} (h : ∃ cur, w.heap[g]? = some (.cells cur t (0, 0)) ∧ cur.size = n) : ∃ cur, (w.setCell ⟨g, o, none⟩ v).heap[g]? = some (.cells cur t (0, 0)) ∧ cur.size = n := by
  obtain ⟨cur, h1, h2⟩ := h
  exact ⟨_, heap_setCell_same w g o cur t v h1, by rw [Array.size_setIfInBounds]; exact h2⟩
theorem row_cell {w : World} {g o n : Nat} {t : TypeId} (h : ∃ cur, w.heap[g]? = some (.cells cur t (0, 0)) ∧ cur.size = n) (ho : o < n) : ∃ u, w.cell? ⟨g, o, none⟩ = some u := by
  obtain ⟨cur, h1, h2⟩ := h
  exact ⟨cur[o]'(by omega), by rw [cell_of_row w g o cur t (0, 0) h1]; exact Array.getElem?_eq_getElem _⟩
theorem row_free {w : World} {g n : Nat} {t : TypeId} (h : ∃ cur, w.heap[g]? = some (.cells cur t (0, 0)) ∧ cur.size = n) : ∀ o, w.frozen? ⟨g, o, none⟩ = false := by
  obtain ⟨cur, h1, _⟩ := h
  exact fun o => by simp [World.frozen?, h1]
theorem row_of_block {w w' : World} {g n : Nat} {t : TypeId} (h : ∃ cur, w.heap[g]? = some (.cells cur t (0, 0)) ∧ cur.size = n) (hb : w'.heap[g]? = w.heap[g]?) : ∃ cur, w'.heap[g]? = some (.cells cur t (0, 0)) ∧ cur.size = n := by
  obtain ⟨cur, h1, h2⟩ := h
  exact ⟨cur, hb.trans h1, h2⟩

set_option maxRecDepth 100000 in
set_option maxHeartbeats 2000000 in
theorem spent_nn (a b c : Int) (w : World) :
    Calls Tryd.prog 20 #[.agg #[.int .i64 a, .int .i64 b, .int .i64 c, .slice none 0 0, .slice none 0 0]] w (SpentPost w (.slice none 0 0) (.slice none 0 0)) := by
  go_enter Tryd.func20, Tryd.ntmps20
  go_wp2_with fail
  iterate 1 (refine wp_loop_rounds 1 ?_; rw [rounds_succ]; go_wp2_with fail)
  iterate 1 (refine wp_loop_rounds 1 ?_; rw [rounds_succ]; go_wp2_with fail)
  go_returns
  exact ⟨rfl, (Keep.refl _ _).alloc _⟩

set_option maxRecDepth 100000 in
set_option maxHeartbeats 2000000 in
theorem spent_on (a b c : Int) (g no co : Nat) (w : World) (hg : ∃ cur, w.heap[g]? = some (.cells cur 3 (0, 0)) ∧ cur.size = co) (_hno : no ≤ co) (hco : co ≤ 9223372036854775807) :
    Calls Tryd.prog 20 #[.agg #[.int .i64 a, .int .i64 b, .int .i64 c, .slice (some ⟨g, 0, none⟩) no co, .slice none 0 0]] w (SpentPost w (.slice (some ⟨g, 0, none⟩) no co) (.slice none 0 0)) := by
  have hgl : g < w.heap.size := by obtain ⟨cur, h1, _⟩ := hg; exact (Array.getElem?_eq_some_iff.1 h1).1
  have HG := hide hg
  clear hg
  go_enter Tryd.func20, Tryd.ntmps20
  go_wp2_with fail
  obtain ⟨w1, hw1⟩ : ∃ w1, w1 = w.alloc (.cells #[.int .i64 a, .int .i64 b, .int .i64 c, .slice (some ⟨g, 0, none⟩) no co, .slice none 0 0] 37) := ⟨_, rfl⟩
  rw [← hw1]
  have HK1 : Hid (Keep (Rows2 (.slice (some ⟨g, 0, none⟩) no co) (.slice none 0 0)) w w1) := by rw [hw1]; exact (Keep.refl _ _).alloc _
  have p4 : w1.cell? ⟨w.heap.size, 4, none⟩ = some (.slice none 0 0) := by rw [hw1, World.cell?_alloc_at (hn := rfl)]; rfl
  have hz1 : w.heap.size < w1.heap.size := by rw [hw1]; simp
  have HG1 : Hid (∃ cur, w1.heap[g]? = some (.cells cur 3 (0, 0)) ∧ cur.size = co) := by rw [hw1]; exact row_of_block (unhide HG) (Below.heap_alloc _ _ _ hgl)
  clear hw1
  go_loopw [3] (fun i wr => ∃ k : Nat, k ≤ co ∧ i = .int .i64 k ∧ Hid (∃ cur, wr.heap[g]? = some (.cells cur 3 (0, 0)) ∧ cur.size = co) ∧ Hid (Keep (fun k => k = g) w1 wr)) (fun i _ => co - (intOf i).toNat)
  case atStart => exact ⟨0, Nat.zero_le _, rfl, unhide HG1, Keep.refl _ _⟩
  case round =>
    obtain ⟨k, hk, rfl, HGr, HKr⟩ := hrel
    by_cases hlt : k < co
    · obtain ⟨u, hu⟩ := row_cell (unhide HGr) hlt
      have hf := row_free (unhide HGr)
      go_wp2
      go_roundw
      case rel => exact ⟨k + 1, by omega, by go_num, row_set (unhide HGr), keep_set (unhide HKr) _ _⟩
      case measure => simp [intOf]; omega
    · obtain rfl : co = k := by omega
      have p4r := (World.cell?_of_block ((unhide HKr).block w.heap.size hz1 (by omega))).trans p4
      have HKw : Hid (Keep (Rows2 (.slice (some ⟨g, 0, none⟩) no co) (.slice none 0 0)) w wr) := (unhide HK1).trans (unhide HKr) (fun i _ h => .inl (by rw [h]; rfl))
      go_wp2_with fail
      refine wp_loop_rounds 1 ?_
      rw [rounds_succ]
      go_wp2_with fail
      go_returns
      exact ⟨rfl, unhide HKw⟩

set_option maxRecDepth 100000 in
set_option maxHeartbeats 2000000 in
theorem spent_ns (a b c : Int) (q ns cz : Nat) (w : World) (hq : ∃ cur, w.heap[q]? = some (.cells cur 63 (0, 0)) ∧ cur.size = cz * 5) (_hns : ns ≤ cz) (hcz : cz ≤ 9223372036854775807) :
    Calls Tryd.prog 20 #[.agg #[.int .i64 a, .int .i64 b, .int .i64 c, .slice none 0 0, .slice (some ⟨q, 0, none⟩) ns cz]] w (SpentPost w (.slice none 0 0) (.slice (some ⟨q, 0, none⟩) ns cz)) := by
  have hql : q < w.heap.size := by obtain ⟨cur, h1, _⟩ := hq; exact (Array.getElem?_eq_some_iff.1 h1).1
  have HQ := hide hq
  clear hq
  go_enter Tryd.func20, Tryd.ntmps20
  go_wp2_with fail
  obtain ⟨w1, hw1⟩ : ∃ w1, w1 = w.alloc (.cells #[.int .i64 a, .int .i64 b, .int .i64 c, .slice none 0 0, .slice (some ⟨q, 0, none⟩) ns cz] 37) := ⟨_, rfl⟩
  rw [← hw1]
  have HK1 : Hid (Keep (Rows2 (.slice none 0 0) (.slice (some ⟨q, 0, none⟩) ns cz)) w w1) := by rw [hw1]; exact (Keep.refl _ _).alloc _
  have p4 : w1.cell? ⟨w.heap.size, 4, none⟩ = some (.slice (some ⟨q, 0, none⟩) ns cz) := by rw [hw1, World.cell?_alloc_at (hn := rfl)]; rfl
  have hz1 : w.heap.size < w1.heap.size := by rw [hw1]; simp
  have HQ1 : Hid (∃ cur, w1.heap[q]? = some (.cells cur 63 (0, 0)) ∧ cur.size = cz * 5) := by rw [hw1]; exact row_of_block (unhide HQ) (Below.heap_alloc _ _ _ hql)
  clear hw1
  refine wp_loop_rounds 1 ?_
  rw [rounds_succ]
  have p4r := p4
  have HQr := HQ1
  have HKw := HK1
  go_wp2_with fail
  go_loopw [5] (fun i wr => ∃ k : Nat, k ≤ cz ∧ i = .int .i64 k ∧ Hid (∃ cur, wr.heap[q]? = some (.cells cur 63 (0, 0)) ∧ cur.size = cz * 5) ∧ Hid (Keep (Rows2 (.slice none 0 0) (.slice (some ⟨q, 0, none⟩) ns cz)) w wr)) (fun i _ => cz - (intOf i).toNat)
  case atStart => exact ⟨0, Nat.zero_le _, rfl, unhide HQr, unhide HKw⟩
  case round =>
    obtain ⟨k, hk2, rfl, HQs, HKs⟩ := hrel
    by_cases hlt : k < cz
    · obtain ⟨u0, hu0⟩ := row_cell (o := k * 5) (unhide HQs) (by omega)
      obtain ⟨u1, hu1⟩ := row_cell (o := k * 5 + 1) (unhide HQs) (by omega)
      obtain ⟨u2, hu2⟩ := row_cell (o := k * 5 + 2) (unhide HQs) (by omega)
      obtain ⟨u3, hu3⟩ := row_cell (o := k * 5 + 3) (unhide HQs) (by omega)
      obtain ⟨u4, hu4⟩ := row_cell (o := k * 5 + 4) (unhide HQs) (by omega)
      have hf := row_free (unhide HQs)
      have hS : Rows2 (.slice none 0 0) (.slice (some ⟨q, 0, none⟩) ns cz) q := .inr rfl
      have HS := hide hS
      clear hS
      go_wp2
      go_roundw
      case rel => exact ⟨k + 1, by omega, by go_num, row_set (row_set (row_set (row_set (row_set (unhide HQs))))), Keep.setCell (p := ⟨q, _, none⟩) (Keep.setCell (p := ⟨q, _, none⟩) (Keep.setCell (p := ⟨q, _, none⟩) (Keep.setCell (p := ⟨q, _, none⟩) (Keep.setCell (p := ⟨q, _, none⟩) (unhide HKs) (unhide HS) _) (unhide HS) _) (unhide HS) _) (unhide HS) _) (unhide HS) _⟩
      case measure => simp [intOf]; omega
    · obtain rfl : cz = k := by omega
      go_wp2
      go_returns
      exact ⟨rfl, unhide HKs⟩

set_option maxRecDepth 100000 in
set_option maxHeartbeats 2000000 in
theorem spent_os (a b c : Int) (g no co q ns cz : Nat) (w : World) (hg : ∃ cur, w.heap[g]? = some (.cells cur 3 (0, 0)) ∧ cur.size = co) (_hno : no ≤ co) (hco : co ≤ 9223372036854775807) (hq : ∃ cur, w.heap[q]? = some (.cells cur 63 (0, 0)) ∧ cur.size = cz * 5) (_hns : ns ≤ cz) (hcz : cz ≤ 9223372036854775807) (hne : g ≠ q) :
    Calls Tryd.prog 20 #[.agg #[.int .i64 a, .int .i64 b, .int .i64 c, .slice (some ⟨g, 0, none⟩) no co, .slice (some ⟨q, 0, none⟩) ns cz]] w (SpentPost w (.slice (some ⟨g, 0, none⟩) no co) (.slice (some ⟨q, 0, none⟩) ns cz)) := by
  have hgl : g < w.heap.size := by obtain ⟨cur, h1, _⟩ := hg; exact (Array.getElem?_eq_some_iff.1 h1).1
  have HG := hide hg
  clear hg
  have hql : q < w.heap.size := by obtain ⟨cur, h1, _⟩ := hq; exact (Array.getElem?_eq_some_iff.1 h1).1
  have HQ := hide hq
  clear hq
  go_enter Tryd.func20, Tryd.ntmps20
  go_wp2_with fail
  obtain ⟨w1, hw1⟩ : ∃ w1, w1 = w.alloc (.cells #[.int .i64 a, .int .i64 b, .int .i64 c, .slice (some ⟨g, 0, none⟩) no co, .slice (some ⟨q, 0, none⟩) ns cz] 37) := ⟨_, rfl⟩
  rw [← hw1]
  have HK1 : Hid (Keep (Rows2 (.slice (some ⟨g, 0, none⟩) no co) (.slice (some ⟨q, 0, none⟩) ns cz)) w w1) := by rw [hw1]; exact (Keep.refl _ _).alloc _
  have p4 : w1.cell? ⟨w.heap.size, 4, none⟩ = some (.slice (some ⟨q, 0, none⟩) ns cz) := by rw [hw1, World.cell?_alloc_at (hn := rfl)]; rfl
  have hz1 : w.heap.size < w1.heap.size := by rw [hw1]; simp
  have HG1 : Hid (∃ cur, w1.heap[g]? = some (.cells cur 3 (0, 0)) ∧ cur.size = co) := by rw [hw1]; exact row_of_block (unhide HG) (Below.heap_alloc _ _ _ hgl)
  have HQ1 : Hid (∃ cur, w1.heap[q]? = some (.cells cur 63 (0, 0)) ∧ cur.size = cz * 5) := by rw [hw1]; exact row_of_block (unhide HQ) (Below.heap_alloc _ _ _ hql)
  clear hw1
  go_loopw [3] (fun i wr => ∃ k : Nat, k ≤ co ∧ i = .int .i64 k ∧ Hid (∃ cur, wr.heap[g]? = some (.cells cur 3 (0, 0)) ∧ cur.size = co) ∧ Hid (Keep (fun k => k = g) w1 wr)) (fun i _ => co - (intOf i).toNat)
  case atStart => exact ⟨0, Nat.zero_le _, rfl, unhide HG1, Keep.refl _ _⟩
  case round =>
    obtain ⟨k, hk, rfl, HGr, HKr⟩ := hrel
    by_cases hlt : k < co
    · obtain ⟨u, hu⟩ := row_cell (unhide HGr) hlt
      have hf := row_free (unhide HGr)
      go_wp2
      go_roundw
      case rel => exact ⟨k + 1, by omega, by go_num, row_set (unhide HGr), keep_set (unhide HKr) _ _⟩
      case measure => simp [intOf]; omega
    · obtain rfl : co = k := by omega
      have p4r := (World.cell?_of_block ((unhide HKr).block w.heap.size hz1 (by omega))).trans p4
      have HQr : Hid (∃ cur, wr.heap[q]? = some (.cells cur 63 (0, 0)) ∧ cur.size = cz * 5) := row_of_block (unhide HQ1) ((unhide HKr).block q (by omega) (fun h => hne h.symm))
      have HKw : Hid (Keep (Rows2 (.slice (some ⟨g, 0, none⟩) no co) (.slice (some ⟨q, 0, none⟩) ns cz)) w wr) := (unhide HK1).trans (unhide HKr) (fun i _ h => .inl (by rw [h]; rfl))
      go_wp2_with fail
      go_loopw [5] (fun i wr => ∃ k : Nat, k ≤ cz ∧ i = .int .i64 k ∧ Hid (∃ cur, wr.heap[q]? = some (.cells cur 63 (0, 0)) ∧ cur.size = cz * 5) ∧ Hid (Keep (Rows2 (.slice (some ⟨g, 0, none⟩) no co) (.slice (some ⟨q, 0, none⟩) ns cz)) w wr)) (fun i _ => cz - (intOf i).toNat)
      case atStart => exact ⟨0, Nat.zero_le _, rfl, unhide HQr, unhide HKw⟩
      case round =>
        obtain ⟨k, hk2, rfl, HQs, HKs⟩ := hrel
        by_cases hlt : k < cz
        · obtain ⟨u0, hu0⟩ := row_cell (o := k * 5) (unhide HQs) (by omega)
          obtain ⟨u1, hu1⟩ := row_cell (o := k * 5 + 1) (unhide HQs) (by omega)
          obtain ⟨u2, hu2⟩ := row_cell (o := k * 5 + 2) (unhide HQs) (by omega)
          obtain ⟨u3, hu3⟩ := row_cell (o := k * 5 + 3) (unhide HQs) (by omega)
          obtain ⟨u4, hu4⟩ := row_cell (o := k * 5 + 4) (unhide HQs) (by omega)
          have hf := row_free (unhide HQs)
          have hS : Rows2 (.slice (some ⟨g, 0, none⟩) no co) (.slice (some ⟨q, 0, none⟩) ns cz) q := .inr rfl
          have HS := hide hS
          clear hS
          go_wp2
          go_roundw
          case rel => exact ⟨k + 1, by omega, by go_num, row_set (row_set (row_set (row_set (row_set (unhide HQs))))), Keep.setCell (p := ⟨q, _, none⟩) (Keep.setCell (p := ⟨q, _, none⟩) (Keep.setCell (p := ⟨q, _, none⟩) (Keep.setCell (p := ⟨q, _, none⟩) (Keep.setCell (p := ⟨q, _, none⟩) (unhide HKs) (unhide HS) _) (unhide HS) _) (unhide HS) _) (unhide HS) _) (unhide HS) _⟩
          case measure => simp [intOf]; omega
        · obtain rfl : cz = k := by omega
          go_wp2
          go_returns
          exact ⟨rfl, unhide HKs⟩

/-- Of whatever result that a run owns. -/
theorem spent_any (s : St) (base : Nat) (vo vs : Value) (w : World) (ho : w.ownsRow base 3 1 vo s.outs.length (intCells s.outs)) (hs : w.ownsRow base 63 5 vs s.stops.length (snCells s.stops)) :
    Calls Tryd.prog 20 #[.agg #[.int .i64 s.kind, .int .i64 s.val, .int .i64 (s.steps : Int), vo, vs]] w (SpentPost w vo vs) := by
  have hap := own_apart ho hs (by decide)
  rcases ho.2 with ⟨rfl, _⟩ | ⟨g, co, cg, rfl, _, h3, h4, h5, h6, _⟩
  · rcases hs.2 with ⟨rfl, _⟩ | ⟨q, cz, cq, rfl, _, k3, k4, k5, k6, _⟩
    · exact spent_nn _ _ _ w
    · unfold maxLen at k5
      exact spent_ns _ _ _ q _ cz w ⟨cq, k3, k6⟩ k4 (by omega)
  · unfold maxLen at h5
    rcases hs.2 with ⟨rfl, _⟩ | ⟨q, cz, cq, rfl, _, k3, k4, k5, k6, _⟩
    · exact spent_on _ _ _ g _ co w ⟨cg, h3, by omega⟩ h4 (by omega)
    · unfold maxLen at k5
      exact spent_os _ _ _ g _ co q _ cz w ⟨cg, h3, by omega⟩ h4 (by omega) ⟨cq, k3, k6⟩ k4 (by omega) (fun e => hap g rfl (by rw [e]; rfl))
end Go.Proofs.YtoepcplbpochpaaDoor

/-
  The caller writes code full, with its spare room (lodgelaw.scrawled): nothing else is written.
-/
namespace Go.Proofs.YtoepcplbpochpaaDoor
open Go.RowKit

set_option maxRecDepth 100000 in
set_option maxHeartbeats 4000000 in
theorem scrawled_any (g n c : Nat) (w : World) (hg : ∃ cur, w.heap[g]? = some (.cells cur 77 (0, 0)) ∧ cur.size = c * 4) (_hn : n ≤ c) (hc : c ≤ 9223372036854775807) :
    Calls Tryd.prog 28 #[.slice (some ⟨g, 0, none⟩) n c] w fun e w' => e = .returned (.tuple #[]) ∧ Keep (fun k => k = g) w w' := by
  have HG := hide hg
  clear hg
  go_enter Tryd.func28, Tryd.ntmps28
  go_wp2_with fail
  go_loopw [3] (fun i wr => ∃ k : Nat, k ≤ c ∧ i = .int .i64 k ∧ Hid (∃ cur, wr.heap[g]? = some (.cells cur 77 (0, 0)) ∧ cur.size = c * 4) ∧ Hid (Keep (fun k => k = g) w wr)) (fun i _ => c - (intOf i).toNat)
  case atStart => exact ⟨0, Nat.zero_le _, rfl, unhide HG, Keep.refl _ _⟩
  case round =>
    obtain ⟨k, hk2, rfl, HQs, HKs⟩ := hrel
    by_cases hlt : k < c
    · obtain ⟨u0, hu0⟩ := row_cell (o := k * 4) (unhide HQs) (by omega)
      obtain ⟨u1, hu1⟩ := row_cell (o := k * 4 + 1) (unhide HQs) (by omega)
      obtain ⟨u2, hu2⟩ := row_cell (o := k * 4 + 2) (unhide HQs) (by omega)
      obtain ⟨u3, hu3⟩ := row_cell (o := k * 4 + 3) (unhide HQs) (by omega)
      have hf := row_free (unhide HQs)
      go_wp2
      go_roundw
      case rel => exact ⟨k + 1, by omega, by go_num, row_set (row_set (row_set (row_set (unhide HQs)))), keep_set (keep_set (keep_set (keep_set (unhide HKs) _ _) _ _) _ _) _ _⟩
      case measure => simp [intOf]; omega
    · obtain rfl : c = k := by omega
      go_wp2
      go_returns
      exact ⟨rfl, unhide HKs⟩
end Go.Proofs.YtoepcplbpochpaaDoor

/-
  Lists that hold the same are the same (lodgelaw.sameInts, sameSeen, sameCode, sameResult).
-/
namespace Go.Proofs.YtoepcplbpochpaaDoor
open Go.RowKit

set_option maxRecDepth 100000 in
set_option maxHeartbeats 2000000 in
theorem sameInts_any (xs : List Int) (ao bo : Option Addr) (c1 c2 : Nat) (w : World) (hA : HeldI w ao xs) (hB : HeldI w bo xs) (hl : xs.length ≤ 9223372036854775807) :
    Calls Tryd.prog 55 #[.slice ao xs.length c1, .slice bo xs.length c2] w fun e w' => e = .returned (.bool true) ∧ Below w.heap.size w w' := by
  have HA := hide hA
  have HB := hide hB
  clear hA hB
  go_enter Tryd.func55, Tryd.ntmps55
  go_wp2
  go_loopw [5] (fun i wr => ∃ k : Nat, k ≤ xs.length ∧ i = .int .i64 k ∧ Hid (Below w.heap.size w wr)) (fun i _ => xs.length - (intOf i).toNat)
  case atStart => exact ⟨0, Nat.zero_le _, rfl, Below.refl _ _⟩
  case round =>
    obtain ⟨k, hk, rfl, HW⟩ := hrel
    by_cases hlt : k < xs.length
    · obtain ⟨b1, o1, rfl, h1, g1⟩ : ∃ b off, ao = some ⟨b, off, none⟩ ∧ b < w.heap.size ∧ ∀ i, i < xs.length → w.cell? ⟨b, off + i, none⟩ = some (.int .i64 (nth xs i)) := by
        rcases unhide HA with h | h
        · subst h; exact absurd hlt (by simp)
        · exact h
      obtain ⟨b2, o2, rfl, h2, g2⟩ : ∃ b off, bo = some ⟨b, off, none⟩ ∧ b < w.heap.size ∧ ∀ i, i < xs.length → w.cell? ⟨b, off + i, none⟩ = some (.int .i64 (nth xs i)) := by
        rcases unhide HB with h | h
        · subst h; exact absurd hlt (by simp)
        · exact h
      obtain ⟨y, hy⟩ : ∃ y, y = nth xs k := ⟨_, rfl⟩
      have d1 : wr.cell? ⟨b1, o1 + k, none⟩ = some (.int .i64 y) := by rw [hy]; exact ((unhide HW).cell (p := ⟨b1, o1 + k, none⟩) h1).trans (g1 k hlt)
      have d2 : wr.cell? ⟨b2, o2 + k, none⟩ = some (.int .i64 y) := by rw [hy]; exact ((unhide HW).cell (p := ⟨b2, o2 + k, none⟩) h2).trans (g2 k hlt)
      have k0 : (0 : Int) ≤ (k : Int) := by omega
      have k1 : (k : Int) < (xs.length : Int) := by omega
      clear g1 g2 hy
      go_wp2_with fail
      go_region_held3 (fun w' => w'.cell? ⟨b1, o1 + k, none⟩ = some (.int .i64 y) ∧ w'.cell? ⟨b2, o2 + k, none⟩ = some (.int .i64 y)) (simp [*]) (fail)
      go_wp2
      go_roundw
      case rel => exact ⟨k + 1, by omega, by go_num, (unhide HW).drew⟩
      case measure => simp [intOf]; omega
    · obtain rfl : k = xs.length := by omega
      go_wp2
      go_ret
      exact ⟨rfl, unhide HW⟩

set_option maxRecDepth 100000 in
set_option maxHeartbeats 2000000 in
theorem sameSeen_any (l : List Sn) (ao bo : Option Addr) (c1 c2 : Nat) (w : World) (hA : HeldS w ao l) (hB : HeldS w bo l) (hl : l.length ≤ 9223372036854775807) :
    Calls Tryd.prog 56 #[.slice ao l.length c1, .slice bo l.length c2] w fun e w' => e = .returned (.bool true) ∧ Below w.heap.size w w' := by
  have HA := hide hA
  have HB := hide hB
  clear hA hB
  go_enter Tryd.func56, Tryd.ntmps56
  go_wp2
  go_loopw [5] (fun i wr => ∃ k : Nat, k ≤ l.length ∧ i = .int .i64 k ∧ Hid (Below w.heap.size w wr)) (fun i _ => l.length - (intOf i).toNat)
  case atStart => exact ⟨0, Nat.zero_le _, rfl, Below.refl _ _⟩
  case round =>
    obtain ⟨k, hk, rfl, HW⟩ := hrel
    by_cases hlt : k < l.length
    · obtain ⟨b1, o1, rfl, h1, g1⟩ : ∃ b off, ao = some ⟨b, off, none⟩ ∧ b < w.heap.size ∧ ∀ i, i < l.length → SeenC w b (off + i * 5) (snAt l i) := by
        rcases unhide HA with h | h
        · subst h; exact absurd hlt (by simp)
        · exact h
      obtain ⟨b2, o2, rfl, h2, g2⟩ : ∃ b off, bo = some ⟨b, off, none⟩ ∧ b < w.heap.size ∧ ∀ i, i < l.length → SeenC w b (off + i * 5) (snAt l i) := by
        rcases unhide HB with h | h
        · subst h; exact absurd hlt (by simp)
        · exact h
      obtain ⟨x, hx⟩ : ∃ x, x = snAt l k := ⟨_, rfl⟩
      have A1 := hide (g1 k hlt)
      have A2 := hide (g2 k hlt)
      rw [← hx] at A1 A2
      have d1 : wr.cell? ⟨b1, o1 + k * 5, none⟩ = some (.int .i64 x.no) := ((unhide HW).cell (p := ⟨b1, o1 + k * 5, none⟩) h1).trans (unhide A1).1
      have d2 : wr.cell? ⟨b2, o2 + k * 5, none⟩ = some (.int .i64 x.no) := ((unhide HW).cell (p := ⟨b2, o2 + k * 5, none⟩) h2).trans (unhide A2).1
      have k0 : (0 : Int) ≤ (k : Int) := by omega
      have k1 : (k : Int) < (l.length : Int) := by omega
      clear g1 g2 hx
      go_wp2_with fail
      go_region_held3 (fun w' => w'.cell? ⟨b1, o1 + k * 5, none⟩ = some (.int .i64 x.no) ∧ w'.cell? ⟨b2, o2 + k * 5, none⟩ = some (.int .i64 x.no)) (simp [*]) (fail)
      have HW2 : Hid (Below w.heap.size w wr.drew) := (unhide HW).drew
      clear d1 d2 HW
      obtain ⟨w4, hw4⟩ : ∃ w4, w4 = wr.drew := ⟨_, rfl⟩
      rw [← hw4] at HW2 ⊢
      clear hw4
      go_wp2_with fail
      go_loopw [6] (fun i wr => ∃ j : Nat, j ≤ 4 ∧ i = .int .i64 j ∧ Hid (Below w.heap.size w wr)) (fun i _ => 4 - (intOf i).toNat)
      case atStart => exact ⟨0, Nat.zero_le _, rfl, unhide HW2⟩
      case round =>
        obtain ⟨j, hj, rfl, HW⟩ := hrel
        by_cases hlj : j < 4
        · obtain ⟨y, hy⟩ : ∃ y, y = x.v j := ⟨_, rfl⟩
          have e1 : wr.cell? ⟨b1, o1 + k * 5 + 1 + j, none⟩ = some (.int .i64 y) := by rw [hy]; exact ((unhide HW).cell (p := ⟨b1, o1 + k * 5 + 1 + j, none⟩) h1).trans ((unhide A1).2 j hlj)
          have e2 : wr.cell? ⟨b2, o2 + k * 5 + 1 + j, none⟩ = some (.int .i64 y) := by rw [hy]; exact ((unhide HW).cell (p := ⟨b2, o2 + k * 5 + 1 + j, none⟩) h2).trans ((unhide A2).2 j hlj)
          have j0 : (0 : Int) ≤ (j : Int) := by omega
          have j4 : (j : Int) < 4 := by omega
          clear hy
          go_wp2_with fail
          go_region_held3 (fun w' => w'.cell? ⟨b1, o1 + k * 5 + 1 + j, none⟩ = some (.int .i64 y) ∧ w'.cell? ⟨b2, o2 + k * 5 + 1 + j, none⟩ = some (.int .i64 y)) (simp [*]) (fail)
          go_wp2
          go_roundw
          case rel => exact ⟨j + 1, by omega, by go_num, (unhide HW).drew⟩
          case measure => simp [intOf]; omega
        · obtain rfl : j = 4 := by omega
          go_wp2
          go_roundw
          case rel => exact ⟨k + 1, by omega, by go_num, unhide HW⟩
          case measure => simp [intOf]; omega
    · obtain rfl : k = l.length := by omega
      go_wp2
      go_ret
      exact ⟨rfl, unhide HW⟩
end Go.Proofs.YtoepcplbpochpaaDoor

/-
  Code that is the same, and results that are the same (lodgelaw.sameCode, sameResult); what a run owns is held.
-/
namespace Go.Proofs.YtoepcplbpochpaaDoor
open Go.RowKit

set_option maxRecDepth 100000 in
set_option maxHeartbeats 1000000 in
theorem sameCode_any (L : List In4) (ao bo : Option Addr) (c1 c2 : Nat) (w : World) (hA : HeldIns w ao L) (hB : HeldIns w bo L) (hlen : L.length ≤ 9223372036854775807) :
    Calls Tryd.prog 29 #[.slice ao L.length c1, .slice bo L.length c2] w fun e w' => e = .returned (.bool true) ∧ Below w.heap.size w w' := by
  go_enter Tryd.func29, Tryd.ntmps29
  go_wp2
  go_loopw [5] (fun i wr => ∃ k : Nat, k ≤ L.length ∧ i = .int .i64 k ∧ Below w.heap.size w wr) (fun i _ => L.length - (intOf i).toNat)
  case atStart => exact ⟨0, Nat.zero_le _, rfl, Below.refl _ _⟩
  case round =>
    obtain ⟨k, hk, rfl, hbel⟩ := hrel
    by_cases hlt : k < L.length
    · obtain ⟨b, off, rfl, hb, hl⟩ : ∃ b off, ao = some ⟨b, off, none⟩ ∧ b < w.heap.size ∧ LieI w b off L := by
        rcases hA with h | h
        · subst h; exact absurd hlt (by simp)
        · exact h
      obtain ⟨b2, off2, rfl, hb2, hl2⟩ : ∃ b off, bo = some ⟨b, off, none⟩ ∧ b < w.heap.size ∧ LieI w b off L := by
        rcases hB with h | h
        · subst h; exact absurd hlt (by simp)
        · exact h
      obtain ⟨a0, a1, a2, a3⟩ := (hl k hlt).below hbel hb
      obtain ⟨d0, d1, d2, d3⟩ := (hl2 k hlt).below hbel hb2
      have i3 : (k : Int) < (L.length : Int) := by omega
      go_wp2_with fail
      go_quiet (fail)
      go_wp2
      go_roundw
      case rel => exact ⟨k + 1, by omega, by go_num, below_drewN hbel _⟩
      case measure => simp [intOf]; omega
    · go_wp2
      go_ret
      exact ⟨rfl, hbel⟩

set_option maxRecDepth 100000 in
set_option maxHeartbeats 2000000 in
theorem sameResult_any (s : St) (b1 b2 : Nat) (v1 v2 : Value) (w : World) (h1 : ResOf w b1 v1 s) (h2 : ResOf w b2 v2 s) :
    Calls Tryd.prog 19 #[v1, v2] w fun e w' => e = .returned (.bool true) ∧ Below w.heap.size w w' := by
  obtain ⟨vo, vs, rfl, o1, s1⟩ := h1
  obtain ⟨vo', vs', rfl, o2, s2⟩ := h2
  obtain ⟨ao, co, rfl, hA, hl⟩ := own_heldI o1
  obtain ⟨bo, do', rfl, hB, _⟩ := own_heldI o2
  obtain ⟨as', cs, rfl, hC, hm⟩ := own_heldS s1
  obtain ⟨bs, ds, rfl, hD, _⟩ := own_heldS s2
  unfold maxLen at hl hm
  have K1 := hide (fun w (hA : HeldI w ao s.outs) (hB : HeldI w bo s.outs) => sameInts_any s.outs ao bo co do' w hA hB (by omega))
  have K2 := hide (fun w (hA : HeldS w as' s.stops) (hB : HeldS w bs s.stops) => sameSeen_any s.stops as' bs cs ds w hA hB (by omega))
  have HA := hide hA
  have HB := hide hB
  have HC := hide hC
  have HD := hide hD
  clear hA hB hC hD o1 o2 s1 s2
  go_enter Tryd.func19, Tryd.ntmps19
  go_wp2_with fail
  obtain ⟨w1, hw1⟩ : ∃ w1, w1 = (w.alloc (.cells #[.int .i64 s.kind, .int .i64 s.val, .int .i64 (s.steps : Int), .slice ao s.outs.length co, .slice as' s.stops.length cs] 37)).alloc (.cells #[.int .i64 s.kind, .int .i64 s.val, .int .i64 (s.steps : Int), .slice bo s.outs.length do', .slice bs s.stops.length ds] 37) := ⟨_, rfl⟩
  rw [← hw1]
  have hb1 : Below w.heap.size w w1 := by rw [hw1]; exact ((Below.refl _ _).alloc (Nat.le_refl _) _).alloc (by simp) _
  have hz1 : w1.heap.size = w.heap.size + 2 := by rw [hw1]; simp
  have p4 : w1.cell? ⟨w.heap.size, 4, none⟩ = some (.slice as' s.stops.length cs) := by
    rw [hw1, World.cell?_alloc_past (hn := by simp), World.cell?_alloc_at (hn := rfl)]; rfl
  have q4 : w1.cell? ⟨w.heap.size + 1, 4, none⟩ = some (.slice bs s.stops.length ds) := by
    rw [hw1, World.cell?_alloc_at (hn := by simp)]; rfl
  clear hw1
  refine (unhide K1 w1 ((unhide HA).below hb1) ((unhide HB).below hb1)).mono ?_
  rintro e w2 ⟨rfl, hb2⟩
  have p4' := (hb2.cell (p := ⟨w.heap.size, 4, none⟩) (show w.heap.size < w1.heap.size by omega)).trans p4
  have q4' := (hb2.cell (p := ⟨w.heap.size + 1, 4, none⟩) (show w.heap.size + 1 < w1.heap.size by omega)).trans q4
  have HB2 : Hid (Below w.heap.size w w2) := hb1.trans (hb2.mono (by omega))
  clear hb1 hb2 p4 q4
  go_wp2_with fail
  refine (unhide K2 w2 ((unhide HC).below (unhide HB2)) ((unhide HD).below (unhide HB2))).mono ?_
  rintro e w3 ⟨rfl, hb3⟩
  have HB3 : Hid (Below w.heap.size w w3) := (unhide HB2).trans (hb3.mono (unhide HB2).size)
  clear hb3
  go_wp2_with fail
  go_ret
  exact ⟨rfl, unhide HB3⟩
end Go.Proofs.YtoepcplbpochpaaDoor

/-
  Code and args of the caller's own, with marks in their spare room, and whether they are as they were (lodgelaw.lent, roomy, back, whole).
-/
namespace Go.Proofs.YtoepcplbpochpaaDoor
open Go.RowKit

theorem insCells_one (l : List In4) : ∀ v ∈ insCells l, v.oneCell' = true := by
  intro v hv
  unfold insCells at hv
  obtain ⟨x, _, hx⟩ := List.mem_flatMap.1 hv
  simp only [In4.cells, List.mem_cons, List.not_mem_nil, or_false] at hx
  rcases hx with rfl | rfl | rfl | rfl <;> rfl
theorem intCells_one (l : List Int) : ∀ v ∈ intCells l, v.oneCell' = true := by
  intro v hv; unfold intCells at hv; obtain ⟨x, _, rfl⟩ := List.mem_map.1 hv; rfl
theorem held_code {w : World} {ao : Option Addr} {L : List In4} (h : HeldIns w ao L) : 0 < L.length → ∃ ad, ao = some ad ∧ ∀ j v, (insCells L)[j]? = some v → w.cell? (ad.add j) = some v := fun h0 => by
  rcases h with h | ⟨b, off, e, _, hc⟩
  · subst h; exact absurd h0 (by simp)
  · refine ⟨_, e, fun j v hv => ?_⟩
    have hj : j < L.length * 4 := by
      rcases Nat.lt_or_ge j (L.length * 4) with h | h
      · exact h
      · rw [List.getElem?_eq_none (by rw [insCells_len]; exact h)] at hv; cases hv
    have hadd : (⟨b, off, none⟩ : Addr).add j = ⟨b, off + j, none⟩ := by unfold Addr.add; split <;> simp_all
    have key := insCells_at L (j / 4) (j % 4) (by omega) (by omega)
    rw [show j / 4 * 4 + j % 4 = j by omega, hv] at key
    obtain ⟨k0, k1, k2, k3⟩ := hc (j / 4) (by omega)
    rw [hadd, show off + j = off + j / 4 * 4 + j % 4 by omega]
    have h5 : j % 4 < 4 := by omega
    match hm : j % 4, h5 with
    | 0, _ => rw [hm] at key; rw [Nat.add_zero, k0]; exact key.symm
    | 1, _ => rw [hm] at key; rw [k1]; exact key.symm
    | 2, _ => rw [hm] at key; rw [k2]; exact key.symm
    | 3, _ => rw [hm] at key; rw [k3]; exact key.symm
theorem row_code {w : World} {g : Nat} {L : List In4} {xs : List Value} {t : TypeId} (h : w.heap[g]? = some (.cells (insCells L ++ xs).toArray t (0, 0))) : LieI w g 0 L := fun i hi => by
  have key : ∀ j, j < 4 → w.cell? ⟨g, i * 4 + j, none⟩ = (inAt L i).cells[j]? := fun j hj => by
    rw [cell_of_row w g _ _ t (0, 0) h, ← insCells_at L i j hi hj]
    simp only [List.getElem?_toArray]
    rw [List.getElem?_append_left (by rw [insCells_len]; omega)]
  rw [Nat.zero_add]
  exact ⟨key 0 (by decide), key 1 (by decide), key 2 (by decide), key 3 (by decide)⟩
theorem LieI.set {w : World} {g o : Nat} {L : List In4} {v : Value} (h : LieI w g 0 L) (ho : L.length * 4 ≤ o) : LieI (w.setCell ⟨g, o, none⟩ v) g 0 L := fun i hi => by
  obtain ⟨h0, h1, h2, h3⟩ := h i hi
  exact ⟨cell_set h0 (by omega), cell_set h1 (by omega), cell_set h2 (by omega), cell_set h3 (by omega)⟩
theorem some_cell {w : World} {g o : Nat} {cs : Array Value} {t : TypeId} (h : w.heap[g]? = some (.cells cs t (0, 0))) (ho : o < cs.size) : ∃ u, w.cell? ⟨g, o, none⟩ = some u :=
  ⟨cs[o], by rw [cell_of_row w g o cs t (0, 0) h]; exact Array.getElem?_eq_getElem _⟩
theorem Tryd.i42 : (Tryd.prog.info? 77).map (fun i => (i.zero, i.size, i.bytes)) = some (some (.agg #[.int .i64 0, .int .i64 0, .int .i64 0, .int .i64 0]), 4, 32) := by kernel_rfl
theorem Tryd.i3' : (Tryd.prog.info? 3).map (fun i => (i.zero, i.size, i.bytes)) = some (some (.int .i64 0), 1, 8) := by kernel_rfl
theorem Tryd.size77 : (Tryd.prog.info? 77).map (·.size) = some 4 := by kernel_rfl
theorem Tryd.sizeI : (Tryd.prog.info? 3).map (·.size) = some 1 := by kernel_rfl

/-- Code that was lent: where it lies, and its marks. -/
structure Lent (w : World) (g : Nat) (L : List In4) : Prop where
  lie : LieI w g 0 L
  m0 : w.cell? ⟨g, L.length * 4, none⟩ = some (.int .i64 (-77))
  m1 : w.cell? ⟨g, (L.length + 1) * 4, none⟩ = some (.int .i64 (-77))
  lt : g < w.heap.size
theorem Lent.below {w w' : World} {g B : Nat} {L : List In4} (h : Lent w g L) (hb : Below B w w') (hB : g < B) : Lent w' g L :=
  ⟨h.lie.below hb hB, (hb.cell (p := ⟨g, L.length * 4, none⟩) hB).trans h.m0, (hb.cell (p := ⟨g, (L.length + 1) * 4, none⟩) hB).trans h.m1, Nat.lt_of_lt_of_le h.lt hb.size⟩
structure Roomy (w : World) (g : Nat) (xs : List Int) : Prop where
  lie : ∀ i, i < xs.length → w.cell? ⟨g, i, none⟩ = some (.int .i64 (nth xs i))
  m0 : w.cell? ⟨g, xs.length, none⟩ = some (.int .i64 (-77))
  m1 : w.cell? ⟨g, xs.length + 1, none⟩ = some (.int .i64 (-77))
  lt : g < w.heap.size
theorem Roomy.below {w w' : World} {g B : Nat} {xs : List Int} (h : Roomy w g xs) (hb : Below B w w') (hB : g < B) : Roomy w' g xs :=
  ⟨fun i hi => (hb.cell (p := ⟨g, i, none⟩) hB).trans (h.lie i hi), (hb.cell (p := ⟨g, xs.length, none⟩) hB).trans h.m0, (hb.cell (p := ⟨g, xs.length + 1, none⟩) hB).trans h.m1, Nat.lt_of_lt_of_le h.lt hb.size⟩

set_option maxRecDepth 100000 in
set_option maxHeartbeats 2000000 in
theorem lent_any (L : List In4) (ao : Option Addr) (cap : Nat) (w : World) (hH : HeldIns w ao L) (hlen : L.length * 32 ≤ 140737488351232) :
    Calls Tryd.prog 15 #[.slice ao L.length cap] w fun e w' => e = .returned (.slice (some ⟨w.heap.size, 0, none⟩) L.length (L.length + 2)) ∧ Lent w' w.heap.size L ∧ Below w.heap.size w w' := by
  obtain ⟨i0, hi, hz0, hz1, hz2⟩ := info_parts Tryd.i42
  have hmk : (Instr.makeSlice 22 (.int .i64 ((L.length : Int) + 2)) (.int .i64 ((L.length : Int) + 2))).run Tryd.prog w = .ok (.slice (some ⟨w.heap.size, 0, none⟩) (L.length + 2) (L.length + 2)) (w.alloc (.cells (madeCells #[.int .i64 0, .int .i64 0, .int .i64 0, .int .i64 0] ((L.length + 2) * 4)) 77)) := by
    have := run_make (P := Tryd.prog) w 22 77 i0 _ Tryd.underlying22 hi hz0 .i64 .i64 ((L.length : Int) + 2) ((L.length : Int) + 2) (by omega) (by omega) (by rw [hz2]; omega) (by omega)
    rw [hz1, show ((L.length : Int) + 2).toNat = L.length + 2 by omega] at this
    exact this
  obtain ⟨w1, hw1⟩ : ∃ w1, w1 = w.alloc (.cells (madeCells #[.int .i64 0, .int .i64 0, .int .i64 0, .int .i64 0] ((L.length + 2) * 4)) 77) := ⟨_, rfl⟩
  rw [← hw1] at hmk
  have hg1 : w1.heap[w.heap.size]? = some (.cells (madeCells #[.int .i64 0, .int .i64 0, .int .i64 0, .int .i64 0] ((L.length + 2) * 4)) 77 (0, 0)) := by rw [hw1]; exact heap_alloc_new _ _
  have hb1 : Below w.heap.size w w1 := by rw [hw1]; exact (Below.refl _ _).alloc (Nat.le_refl _) _
  have hcs : (madeCells #[Value.int .i64 0, .int .i64 0, .int .i64 0, .int .i64 0] ((L.length + 2) * 4)).size = (L.length + 2) * 4 := by simp [madeCells]
  obtain ⟨w2, hcp, hg2, hk2⟩ := copy_keep (P := Tryd.prog) 22 22 77 4 Tryd.underlying22 Tryd.size77 ao w.heap.size (L.length + 2) (L.length + 2) L.length cap (by omega) _ 77 hg1 (insCells L) (insCells_len L) (held_code (hH.below hb1)) (by rw [insCells_len, hcs]; omega) (insCells_one L)
  have hsz2 : (insCells L ++ (madeCells #[Value.int .i64 0, .int .i64 0, .int .i64 0, .int .i64 0] ((L.length + 2) * 4)).toList.drop (insCells L).length).toArray.size = (L.length + 2) * 4 := by
    simp only [List.size_toArray, List.length_append, List.length_drop, Array.length_toList, insCells_len, hcs]; omega
  obtain ⟨u0, hu0⟩ := some_cell (o := L.length * 4) hg2 (by rw [hsz2]; omega)
  obtain ⟨u1, hu1⟩ := some_cell (o := (L.length + 1) * 4) hg2 (by rw [hsz2]; omega)
  have hf2 : ∀ o, w2.frozen? ⟨w.heap.size, o, none⟩ = false := fun o => by simp [World.frozen?, hg2]
  have HL2 := hide (row_code hg2)
  have HB2 : Hid (Below w.heap.size w w2) := hb1.trans (hk2.below hb1.size (fun k hk e => by omega))
  have HLT : Hid (w.heap.size < w2.heap.size) := (Array.getElem?_eq_some_iff.1 hg2).1
  have hn1 : L.length * 4 ≠ (L.length + 1) * 4 := by omega
  have hn2 : (L.length + 1) * 4 ≠ L.length * 4 := by omega
  clear hg1 hb1 hcs hg2 hk2 hsz2 hw1 hi hz0 hz1 hz2
  go_enter Tryd.func15, Tryd.ntmps15
  go_wp2_with fail
  go_ret
  refine ⟨rfl, ⟨((unhide HL2).set (Nat.le_refl _)).set (by omega), cell_set (cell_put hu0) hn1, cell_put (cell_set hu1 hn2), by simp; exact unhide HLT⟩, ((unhide HB2).setCell (p := ⟨w.heap.size, L.length * 4, none⟩) (Nat.le_refl _) _).setCell (p := ⟨w.heap.size, (L.length + 1) * 4, none⟩) (Nat.le_refl _) _⟩

theorem row_ints {w : World} {g : Nat} {xs : List Int} {ys : List Value} {t : TypeId} (h : w.heap[g]? = some (.cells (intCells xs ++ ys).toArray t (0, 0))) : ∀ i, i < xs.length → w.cell? ⟨g, i, none⟩ = some (.int .i64 (nth xs i)) := fun i hi => by
  rw [cell_of_row w g _ _ t (0, 0) h]
  simp only [List.getElem?_toArray]
  rw [List.getElem?_append_left (by rw [intCells_len]; exact hi)]
  unfold intCells nth
  rw [List.getElem?_map, List.getElem?_eq_getElem hi, List.getD_eq_getElem?_getD, List.getElem?_eq_getElem hi]
  rfl
theorem held_nums {w : World} {ao : Option Addr} {xs : List Int} (h : HeldI w ao xs) : 0 < xs.length → ∃ ad, ao = some ad ∧ ∀ j v, (intCells xs)[j]? = some v → w.cell? (ad.add j) = some v := fun h0 => by
  rcases h with h | ⟨b, off, e, _, hc⟩
  · subst h; exact absurd h0 (by simp)
  · refine ⟨_, e, fun j v hv => ?_⟩
    have hj : j < xs.length := by
      rcases Nat.lt_or_ge j xs.length with h | h
      · exact h
      · rw [List.getElem?_eq_none (by rw [intCells_len]; exact h)] at hv; cases hv
    have hadd : (⟨b, off, none⟩ : Addr).add j = ⟨b, off + j, none⟩ := by unfold Addr.add; split <;> simp_all
    rw [hadd, hc j hj]
    unfold intCells at hv
    rw [List.getElem?_map, List.getElem?_eq_getElem hj] at hv
    unfold nth
    rw [List.getD_eq_getElem?_getD, List.getElem?_eq_getElem hj]
    exact hv

set_option maxRecDepth 100000 in
set_option maxHeartbeats 2000000 in
theorem roomy_any (xs : List Int) (ao : Option Addr) (cap : Nat) (w : World) (hH : HeldI w ao xs) (hlen : xs.length * 8 ≤ 140737488351232) :
    Calls Tryd.prog 16 #[.slice ao xs.length cap] w fun e w' => e = .returned (.slice (some ⟨w.heap.size, 0, none⟩) xs.length (xs.length + 2)) ∧ Roomy w' w.heap.size xs ∧ Below w.heap.size w w' := by
  obtain ⟨i0, hi, hz0, hz1, hz2⟩ := info_parts Tryd.i3'
  have hmk : (Instr.makeSlice 32 (.int .i64 ((xs.length : Int) + 2)) (.int .i64 ((xs.length : Int) + 2))).run Tryd.prog w = .ok (.slice (some ⟨w.heap.size, 0, none⟩) (xs.length + 2) (xs.length + 2)) (w.alloc (.cells (madeCells #[.int .i64 0] ((xs.length + 2) * 1)) 3)) := by
    have := run_make (P := Tryd.prog) w 32 3 i0 _ Tryd.underlying32 hi hz0 .i64 .i64 ((xs.length : Int) + 2) ((xs.length : Int) + 2) (by omega) (by omega) (by rw [hz2]; omega) (by omega)
    rw [hz1, show ((xs.length : Int) + 2).toNat = xs.length + 2 by omega] at this
    exact this
  obtain ⟨w1, hw1⟩ : ∃ w1, w1 = w.alloc (.cells (madeCells #[.int .i64 0] ((xs.length + 2) * 1)) 3) := ⟨_, rfl⟩
  rw [← hw1] at hmk
  have hg1 : w1.heap[w.heap.size]? = some (.cells (madeCells #[.int .i64 0] ((xs.length + 2) * 1)) 3 (0, 0)) := by rw [hw1]; exact heap_alloc_new _ _
  have hb1 : Below w.heap.size w w1 := by rw [hw1]; exact (Below.refl _ _).alloc (Nat.le_refl _) _
  have hcs : (madeCells #[Value.int .i64 0] ((xs.length + 2) * 1)).size = xs.length + 2 := by simp [madeCells]
  obtain ⟨w2, hcp, hg2, hk2⟩ := copy_keep (P := Tryd.prog) 32 32 3 1 Tryd.underlying32 Tryd.sizeI ao w.heap.size (xs.length + 2) (xs.length + 2) xs.length cap (by omega) _ 3 hg1 (intCells xs) (by rw [intCells_len, Nat.mul_one]) (held_nums (hH.below hb1)) (by rw [intCells_len, hcs]; omega) (intCells_one xs)
  have hsz2 : (intCells xs ++ (madeCells #[Value.int .i64 0] ((xs.length + 2) * 1)).toList.drop (intCells xs).length).toArray.size = xs.length + 2 := by
    simp only [List.size_toArray, List.length_append, List.length_drop, Array.length_toList, intCells_len, hcs]; omega
  obtain ⟨u0, hu0⟩ := some_cell (o := xs.length) hg2 (by rw [hsz2]; omega)
  obtain ⟨u1, hu1⟩ := some_cell (o := xs.length + 1) hg2 (by rw [hsz2]; omega)
  have hf2 : ∀ o, w2.frozen? ⟨w.heap.size, o, none⟩ = false := fun o => by simp [World.frozen?, hg2]
  have HL2 := hide (row_ints hg2)
  have HB2 : Hid (Below w.heap.size w w2) := hb1.trans (hk2.below hb1.size (fun k hk e => by omega))
  have HLT : Hid (w.heap.size < w2.heap.size) := (Array.getElem?_eq_some_iff.1 hg2).1
  have hn1 : xs.length ≠ xs.length + 1 := by omega
  have hn2 : xs.length + 1 ≠ xs.length := by omega
  clear hg1 hb1 hcs hg2 hk2 hsz2 hw1 hi hz0 hz1 hz2
  go_enter Tryd.func16, Tryd.ntmps16
  go_wp2_with fail
  go_ret
  refine ⟨rfl, ⟨fun i hi => cell_set (cell_set (unhide HL2 i hi) (by omega)) (by omega), cell_set (cell_put hu0) hn1, cell_put (cell_set hu1 hn2), by simp; exact unhide HLT⟩, ((unhide HB2).setCell (p := ⟨w.heap.size, xs.length, none⟩) (Nat.le_refl _) _).setCell (p := ⟨w.heap.size, xs.length + 1, none⟩) (Nat.le_refl _) _⟩

set_option maxRecDepth 100000 in
set_option maxHeartbeats 2000000 in
theorem back_any (L : List In4) (g : Nat) (ao : Option Addr) (cap : Nat) (w : World) (hH : HeldIns w ao L) (hL : Lent w g L) (hlen : L.length * 32 ≤ 140737488351232) :
    Calls Tryd.prog 21 #[.slice (some ⟨g, 0, none⟩) L.length (L.length + 2), .slice ao L.length cap] w fun e w' => e = .returned (.bool true) ∧ Below w.heap.size w w' := by
  have KS := hide (fun w c1 (hA : HeldIns w (some ⟨g, 0, none⟩) L) (hB : HeldIns w ao L) => sameCode_any L (some ⟨g, 0, none⟩) ao c1 cap w hA hB (by omega))
  have HH := hide hH
  have HL := hide hL
  clear hH hL
  go_enter Tryd.func21, Tryd.ntmps21
  go_wp2_with fail
  refine (unhide KS w _ (.inr ⟨g, 0, rfl, (unhide HL).lt, (unhide HL).lie⟩) (unhide HH)).mono ?_
  rintro e w2 ⟨rfl, hb2⟩
  have HL2 := (unhide HL).below hb2 (unhide HL).lt
  have m0 := HL2.m0
  have m1 := HL2.m1
  have HB2 := hide hb2
  clear HL2 hb2
  go_wp2_with fail
  go_ret
  exact ⟨rfl, unhide HB2⟩

set_option maxRecDepth 100000 in
set_option maxHeartbeats 2000000 in
theorem whole_any (xs : List Int) (g : Nat) (ao : Option Addr) (cap : Nat) (w : World) (hH : HeldI w ao xs) (hL : Roomy w g xs) (hlen : xs.length * 8 ≤ 140737488351232) :
    Calls Tryd.prog 22 #[.slice (some ⟨g, 0, none⟩) xs.length (xs.length + 2), .slice ao xs.length cap] w fun e w' => e = .returned (.bool true) ∧ Below w.heap.size w w' := by
  have KS := hide (fun w c1 (hA : HeldI w (some ⟨g, 0, none⟩) xs) (hB : HeldI w ao xs) => sameInts_any xs (some ⟨g, 0, none⟩) ao c1 cap w hA hB (by omega))
  have HH := hide hH
  have HL := hide hL
  clear hH hL
  go_enter Tryd.func22, Tryd.ntmps22
  go_wp2_with fail
  refine (unhide KS w _ (.inr ⟨g, 0, rfl, (unhide HL).lt, fun i hi => by rw [Nat.zero_add]; exact (unhide HL).lie i hi⟩) (unhide HH)).mono ?_
  rintro e w2 ⟨rfl, hb2⟩
  have HL2 := (unhide HL).below hb2 (unhide HL).lt
  have m0 := HL2.m0
  have m1 := HL2.m1
  have HB2 := hide hb2
  clear HL2 hb2
  go_wp2_with fail
  go_ret
  exact ⟨rfl, unhide HB2⟩
end Go.Proofs.YtoepcplbpochpaaDoor

/-
  What Compile answers where there is no unit: the error, and the zero unit.
-/
namespace Go.Proofs.YtoepcplbpochpaaDoor
open Go.RowKit

def zUnit : Value := .agg #[.int .i64 0, .int .i64 0, .int .i64 0, .int .i64 0, .slice none 0 0, .string ⟨#[]⟩]
theorem below6 {w w2 : World} {g : Nat} (h : Below w.heap.size w w2) (hg : w.heap.size ≤ g) (a b c d e f : Value) : Below w.heap.size w ((((((w2.setCell ⟨g, 0, none⟩ a).setCell ⟨g, 1, none⟩ b).setCell ⟨g, 2, none⟩ c).setCell ⟨g, 3, none⟩ d).setCell ⟨g, 4, none⟩ e).setCell ⟨g, 5, none⟩ f) :=
  (((((h.setCell (p := ⟨g, 0, none⟩) hg _).setCell (p := ⟨g, 1, none⟩) hg _).setCell (p := ⟨g, 2, none⟩) hg _).setCell (p := ⟨g, 3, none⟩) hg _).setCell (p := ⟨g, 4, none⟩) hg _).setCell (p := ⟨g, 5, none⟩) hg _
/-- The error of Compile. -/
def cmpE (P R V K : Int) (L : List In4) : Int := if (progE P R V L).1 ≠ 0 then (progE P R V L).1 else if K < 2 ∨ 16 < K then 15 else 0

set_option maxRecDepth 100000 in
set_option maxHeartbeats 8000000 in
theorem compile_wrong (P R V K : Int) (L : List In4) (ao : Option Addr) (cap : Nat) (w : World) (hH : HeldIns w ao L) (hn : L.length ≤ 9223372036854775807) (hT : Tab w) (hw0 : 0 < w.heap.size) (hE : cmpE P R V K L ≠ 0) :
    Calls Tryd.prog 27 #[.agg #[.int .i64 P, .int .i64 R, .int .i64 V, .slice ao L.length cap], .int .i64 K] w fun e w' => e = .returned (.tuple #[zUnit, .int .i64 (cmpE P R V K L)]) ∧ Below w.heap.size w w' := by
  have KC := hide (fun w (hH : HeldIns w ao L) (hT : Tab w) (hw0 : 0 < w.heap.size) => irCheck_any P R V L ao cap w hH hn hT hw0)
  obtain ⟨w1, hw1, HP1, HR1, HL1, hz1⟩ := open_cmp w P R V (.slice ao L.length cap)
  have HW := hide hw1
  have HH := hide hH
  have HT := hide hT
  have HE := hide (show cmpE P R V K L = if (progE P R V L).1 ≠ 0 then (progE P R V L).1 else if K < 2 ∨ 16 < K then 15 else 0 from rfl)
  have HEN := hide hE
  obtain ⟨e1, he1⟩ : ∃ e, e = (progE P R V L).1 := ⟨_, rfl⟩
  obtain ⟨e2, he2⟩ : ∃ e, e = (progE P R V L).2 := ⟨_, rfl⟩
  rw [← he1, ← he2] at KC
  rw [← he1] at HE
  clear hw1 hH hT hE he1 he2
  go_enter Tryd.func27, Tryd.ntmps27
  go_upto_region 1 with fail
  rw [← unhide HW]
  have p0 := (unhide HP1).c0
  have p1 := (unhide HP1).c1
  have p2 := (unhide HP1).c2
  have p3 := (unhide HP1).c3
  go_wp2_with fail
  refine (unhide KC w1 ((unhide HH).below (unhide HL1)) ((unhide HT).below (unhide HL1) hw0) (by omega)).mono ?_
  rintro e w2 ⟨rfl, hb2⟩
  have HR2 : Hid (w2.heap[w.heap.size + 1]? = some (.cells #[.int .i64 0, .int .i64 0, .int .i64 0, .int .i64 0, .slice none 0 0, .string ⟨#[]⟩] 26 (0, 0))) := (hb2.block _ hz1).trans (unhide HR1)
  have HL2 : Hid (Below w.heap.size w w2) := (unhide HL1).trans (hb2.mono (unhide HL1).size)
  clear hb2 p0 p1 p2 p3 HP1 HR1 HL1 hz1 KC HW
  have r0 : w2.cell? ⟨w.heap.size + 1, 0, none⟩ = some (.int .i64 0) := (cell_of_row w2 _ 0 _ 26 (0, 0) (unhide HR2)).trans rfl
  have r1 : w2.cell? ⟨w.heap.size + 1, 1, none⟩ = some (.int .i64 0) := (cell_of_row w2 _ 1 _ 26 (0, 0) (unhide HR2)).trans rfl
  have r2 : w2.cell? ⟨w.heap.size + 1, 2, none⟩ = some (.int .i64 0) := (cell_of_row w2 _ 2 _ 26 (0, 0) (unhide HR2)).trans rfl
  have r3 : w2.cell? ⟨w.heap.size + 1, 3, none⟩ = some (.int .i64 0) := (cell_of_row w2 _ 3 _ 26 (0, 0) (unhide HR2)).trans rfl
  have r4 : w2.cell? ⟨w.heap.size + 1, 4, none⟩ = some (.slice none 0 0) := (cell_of_row w2 _ 4 _ 26 (0, 0) (unhide HR2)).trans rfl
  have r5 : w2.cell? ⟨w.heap.size + 1, 5, none⟩ = some (.string ⟨#[]⟩) := (cell_of_row w2 _ 5 _ 26 (0, 0) (unhide HR2)).trans rfl
  have rf : ∀ o, w2.frozen? ⟨w.heap.size + 1, o, none⟩ = false := fun o => by have h := unhide HR2; simp [World.frozen?, h]
  by_cases h1 : e1 = 0
  case neg =>
    have g1 : (e1 != 0) = true := by rw [bne_iff_ne]; exact h1
    have HR := hide (show cmpE P R V K L = e1 by rw [unhide HE, if_pos h1])
    clear h1
    go_wp2_with fail
    refine bodyPost_ret (results_unit rfl _ _ (w.heap.size + 1) _ rfl (set6 (unhide HR2) _ _ _ _ _ _) rfl) rfl ?_
    exact ⟨by rw [unhide HR]; rfl, below6 (unhide HL2) (by omega) _ _ _ _ _ _⟩
  subst h1
  have hK : K < 2 ∨ 16 < K := by
    have h := unhide HE
    rw [if_neg (fun h => h rfl)] at h
    by_cases hk : K < 2 ∨ 16 < K
    · exact hk
    · rw [if_neg hk] at h; exact absurd h (unhide HEN)
  have HR := hide (show cmpE P R V K L = 15 by rw [unhide HE, if_neg (fun h => h rfl), if_pos hK])
  rcases (show K < 2 ∨ (2 ≤ K ∧ 16 < K) by omega) with hk | ⟨hk, hk'⟩
  all_goals
    clear hK
    go_wp2_with fail
    refine bodyPost_ret (results_unit rfl _ _ (w.heap.size + 1) _ rfl (set6 (unhide HR2) _ _ _ _ _ _) rfl) rfl ?_
    exact ⟨by rw [unhide HR]; rfl, below6 (unhide HL2) (by omega) _ _ _ _ _ _⟩
end Go.Proofs.YtoepcplbpochpaaDoor

/-
  What lodgeref.ops computes: which Ops there are, of a program or of a unit.
-/
namespace Go.Proofs.YtoepcplbpochpaaDoor
open Go.RowKit

theorem make17 (w : World) : (Instr.makeSlice 59 (.int .i64 17) (.int .i64 17)).run Tryd.prog w = .ok (.slice (some ⟨w.heap.size, 0, none⟩) 17 17)
    (w.alloc (.cells #[.bool false, .bool false, .bool false, .bool false, .bool false, .bool false, .bool false, .bool false, .bool false, .bool false, .bool false, .bool false, .bool false, .bool false, .bool false, .bool false, .bool false] 4)) := by kernel_rfl

set_option maxRecDepth 100000 in
set_option maxHeartbeats 4000000 in
theorem ops_any (p : Bool) (w : World) :
    Calls Tryd.prog 44 #[.bool p] w fun e w' => e = .returned (.slice (some ⟨w.heap.size, 0, none⟩) 17 17) ∧ w' = w.alloc (.cells (opsA p) 4) := by
  have hmk := make17
  cases p
  all_goals
    go_enter Tryd.func44, Tryd.ntmps44
    go_wp2
    refine wp_loop_rounds 18 ?_
    iterate 17 (rw [rounds_succ]; go_wp2)
    rw [rounds_succ]
    go_wp2
    go_ret
    exact ⟨rfl, rfl⟩
end Go.Proofs.YtoepcplbpochpaaDoor
