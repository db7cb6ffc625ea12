/-
  The caller writes a result full, with its spare room (lodgelaw.spent): nothing else is written.
-/
import Derived.Test.YtoepcplbpochpaaDoorUnit19
import Derived.Test.YtoepcplbpochpaaDoorUnit45

namespace Go.Proofs.YtoepcplbpochpaaDoor
open Go.RowKit

/-- Which blocks a result's lists lie in. -/
def Rows2 (vo vs : Value) : Nat → Prop := fun k => some k = vo.ownBlock ∨ some k = vs.ownBlock
def SpentPost (w : World) (vo vs : Value) (e : Ending) (w' : World) : Prop := e = .returned (.tuple #[]) ∧ Keep (Rows2 vo vs) w w'
theorem row_set {w : World} {g o n : Nat} {t : TypeId} {v : Value} (h : ∃ cur, w.heap[g]? = some (.cells cur t (0, 0)) ∧ cur.size = n) : ∃ cur, (w.setCell ⟨g, o, none⟩ v).heap[g]? = some (.cells cur t (0, 0)) ∧ cur.size = n := by
  obtain ⟨cur, h1, h2⟩ := h
  exact ⟨_, heap_setCell_same w g o cur t v h1, by rw [Array.size_setIfInBounds]; exact h2⟩
theorem row_cell {w : World} {g o n : Nat} {t : TypeId} (h : ∃ cur, w.heap[g]? = some (.cells cur t (0, 0)) ∧ cur.size = n) (ho : o < n) : ∃ u, w.cell? ⟨g, o, none⟩ = some u := by
  obtain ⟨cur, h1, h2⟩ := h
  exact ⟨cur[o]'(by omega), by rw [cell_of_row w g o cur t (0, 0) h1]; exact Array.getElem?_eq_getElem _⟩
theorem row_free {w : World} {g n : Nat} {t : TypeId} (h : ∃ cur, w.heap[g]? = some (.cells cur t (0, 0)) ∧ cur.size = n) : ∀ o, w.frozen? ⟨g, o, none⟩ = false := by
  obtain ⟨cur, h1, _⟩ := h
  exact fun o => by simp [World.frozen?, h1]
theorem row_of_block {w w' : World} {g n : Nat} {t : TypeId} (h : ∃ cur, w.heap[g]? = some (.cells cur t (0, 0)) ∧ cur.size = n) (hb : w'.heap[g]? = w.heap[g]?) : ∃ cur, w'.heap[g]? = some (.cells cur t (0, 0)) ∧ cur.size = n := by
  obtain ⟨cur, h1, h2⟩ := h
  exact ⟨cur, hb.trans h1, h2⟩

set_option maxRecDepth 100000 in
set_option maxHeartbeats 2000000 in
theorem spent_nn (a b c : Int) (w : World) :
    Calls Tryd.prog 20 #[.agg #[.int .i64 a, .int .i64 b, .int .i64 c, .slice none 0 0, .slice none 0 0]] w (SpentPost w (.slice none 0 0) (.slice none 0 0)) := by
  go_enter Tryd.func20, Tryd.ntmps20
  go_wp2_with fail
  iterate 1 (refine wp_loop_rounds 1 ?_; rw [rounds_succ]; go_wp2_with fail)
  iterate 1 (refine wp_loop_rounds 1 ?_; rw [rounds_succ]; go_wp2_with fail)
  go_returns
  exact ⟨rfl, (Keep.refl _ _).alloc _⟩

set_option maxRecDepth 100000 in
set_option maxHeartbeats 2000000 in
theorem spent_on (a b c : Int) (g no co : Nat) (w : World) (hg : ∃ cur, w.heap[g]? = some (.cells cur 3 (0, 0)) ∧ cur.size = co) (_hno : no ≤ co) (hco : co ≤ 9223372036854775807) :
    Calls Tryd.prog 20 #[.agg #[.int .i64 a, .int .i64 b, .int .i64 c, .slice (some ⟨g, 0, none⟩) no co, .slice none 0 0]] w (SpentPost w (.slice (some ⟨g, 0, none⟩) no co) (.slice none 0 0)) := by
  have hgl : g < w.heap.size := by obtain ⟨cur, h1, _⟩ := hg; exact (Array.getElem?_eq_some_iff.1 h1).1
  have HG := hide hg
  clear hg
  go_enter Tryd.func20, Tryd.ntmps20
  go_wp2_with fail
  obtain ⟨w1, hw1⟩ : ∃ w1, w1 = w.alloc (.cells #[.int .i64 a, .int .i64 b, .int .i64 c, .slice (some ⟨g, 0, none⟩) no co, .slice none 0 0] 37) := ⟨_, rfl⟩
  rw [← hw1]
  have HK1 : Hid (Keep (Rows2 (.slice (some ⟨g, 0, none⟩) no co) (.slice none 0 0)) w w1) := by rw [hw1]; exact (Keep.refl _ _).alloc _
  have p4 : w1.cell? ⟨w.heap.size, 4, none⟩ = some (.slice none 0 0) := by rw [hw1, World.cell?_alloc_at (hn := rfl)]; rfl
  have hz1 : w.heap.size < w1.heap.size := by rw [hw1]; simp
  have HG1 : Hid (∃ cur, w1.heap[g]? = some (.cells cur 3 (0, 0)) ∧ cur.size = co) := by rw [hw1]; exact row_of_block (unhide HG) (Below.heap_alloc _ _ _ hgl)
  clear hw1
  go_loopw [3] (fun i wr => ∃ k : Nat, k ≤ co ∧ i = .int .i64 k ∧ Hid (∃ cur, wr.heap[g]? = some (.cells cur 3 (0, 0)) ∧ cur.size = co) ∧ Hid (Keep (fun k => k = g) w1 wr)) (fun i _ => co - (intOf i).toNat)
  case atStart => exact ⟨0, Nat.zero_le _, rfl, unhide HG1, Keep.refl _ _⟩
  case round =>
    obtain ⟨k, hk, rfl, HGr, HKr⟩ := hrel
    by_cases hlt : k < co
    · obtain ⟨u, hu⟩ := row_cell (unhide HGr) hlt
      have hf := row_free (unhide HGr)
      go_wp2
      go_roundw
      case rel => exact ⟨k + 1, by omega, by go_num, row_set (unhide HGr), keep_set (unhide HKr) _ _⟩
      case measure => simp [intOf]; omega
    · obtain rfl : co = k := by omega
      have p4r := (World.cell?_of_block ((unhide HKr).block w.heap.size hz1 (by omega))).trans p4
      have HKw : Hid (Keep (Rows2 (.slice (some ⟨g, 0, none⟩) no co) (.slice none 0 0)) w wr) := (unhide HK1).trans (unhide HKr) (fun i _ h => .inl (by rw [h]; rfl))
      go_wp2_with fail
      refine wp_loop_rounds 1 ?_
      rw [rounds_succ]
      go_wp2_with fail
      go_returns
      exact ⟨rfl, unhide HKw⟩

set_option maxRecDepth 100000 in
set_option maxHeartbeats 2000000 in
theorem spent_ns (a b c : Int) (q ns cz : Nat) (w : World) (hq : ∃ cur, w.heap[q]? = some (.cells cur 63 (0, 0)) ∧ cur.size = cz * 5) (_hns : ns ≤ cz) (hcz : cz ≤ 9223372036854775807) :
    Calls Tryd.prog 20 #[.agg #[.int .i64 a, .int .i64 b, .int .i64 c, .slice none 0 0, .slice (some ⟨q, 0, none⟩) ns cz]] w (SpentPost w (.slice none 0 0) (.slice (some ⟨q, 0, none⟩) ns cz)) := by
  have hql : q < w.heap.size := by obtain ⟨cur, h1, _⟩ := hq; exact (Array.getElem?_eq_some_iff.1 h1).1
  have HQ := hide hq
  clear hq
  go_enter Tryd.func20, Tryd.ntmps20
  go_wp2_with fail
  obtain ⟨w1, hw1⟩ : ∃ w1, w1 = w.alloc (.cells #[.int .i64 a, .int .i64 b, .int .i64 c, .slice none 0 0, .slice (some ⟨q, 0, none⟩) ns cz] 37) := ⟨_, rfl⟩
  rw [← hw1]
  have HK1 : Hid (Keep (Rows2 (.slice none 0 0) (.slice (some ⟨q, 0, none⟩) ns cz)) w w1) := by rw [hw1]; exact (Keep.refl _ _).alloc _
  have p4 : w1.cell? ⟨w.heap.size, 4, none⟩ = some (.slice (some ⟨q, 0, none⟩) ns cz) := by rw [hw1, World.cell?_alloc_at (hn := rfl)]; rfl
  have hz1 : w.heap.size < w1.heap.size := by rw [hw1]; simp
  have HQ1 : Hid (∃ cur, w1.heap[q]? = some (.cells cur 63 (0, 0)) ∧ cur.size = cz * 5) := by rw [hw1]; exact row_of_block (unhide HQ) (Below.heap_alloc _ _ _ hql)
  clear hw1
  refine wp_loop_rounds 1 ?_
  rw [rounds_succ]
  have p4r := p4
  have HQr := HQ1
  have HKw := HK1
  go_wp2_with fail
  go_loopw [5] (fun i wr => ∃ k : Nat, k ≤ cz ∧ i = .int .i64 k ∧ Hid (∃ cur, wr.heap[q]? = some (.cells cur 63 (0, 0)) ∧ cur.size = cz * 5) ∧ Hid (Keep (Rows2 (.slice none 0 0) (.slice (some ⟨q, 0, none⟩) ns cz)) w wr)) (fun i _ => cz - (intOf i).toNat)
  case atStart => exact ⟨0, Nat.zero_le _, rfl, unhide HQr, unhide HKw⟩
  case round =>
    obtain ⟨k, hk2, rfl, HQs, HKs⟩ := hrel
    by_cases hlt : k < cz
    · obtain ⟨u0, hu0⟩ := row_cell (o := k * 5) (unhide HQs) (by omega)
      obtain ⟨u1, hu1⟩ := row_cell (o := k * 5 + 1) (unhide HQs) (by omega)
      obtain ⟨u2, hu2⟩ := row_cell (o := k * 5 + 2) (unhide HQs) (by omega)
      obtain ⟨u3, hu3⟩ := row_cell (o := k * 5 + 3) (unhide HQs) (by omega)
      obtain ⟨u4, hu4⟩ := row_cell (o := k * 5 + 4) (unhide HQs) (by omega)
      have hf := row_free (unhide HQs)
      have hS : Rows2 (.slice none 0 0) (.slice (some ⟨q, 0, none⟩) ns cz) q := .inr rfl
      have HS := hide hS
      clear hS
      go_wp2
      go_roundw
      case rel => exact ⟨k + 1, by omega, by go_num, row_set (row_set (row_set (row_set (row_set (unhide HQs))))), Keep.setCell (p := ⟨q, _, none⟩) (Keep.setCell (p := ⟨q, _, none⟩) (Keep.setCell (p := ⟨q, _, none⟩) (Keep.setCell (p := ⟨q, _, none⟩) (Keep.setCell (p := ⟨q, _, none⟩) (unhide HKs) (unhide HS) _) (unhide HS) _) (unhide HS) _) (unhide HS) _) (unhide HS) _⟩
      case measure => simp [intOf]; omega
    · obtain rfl : cz = k := by omega
      go_wp2
      go_returns
      exact ⟨rfl, unhide HKs⟩

set_option maxRecDepth 100000 in
set_option maxHeartbeats 2000000 in
theorem spent_os (a b c : Int) (g no co q ns cz : Nat) (w : World) (hg : ∃ cur, w.heap[g]? = some (.cells cur 3 (0, 0)) ∧ cur.size = co) (_hno : no ≤ co) (hco : co ≤ 9223372036854775807) (hq : ∃ cur, w.heap[q]? = some (.cells cur 63 (0, 0)) ∧ cur.size = cz * 5) (_hns : ns ≤ cz) (hcz : cz ≤ 9223372036854775807) (hne : g ≠ q) :
    Calls Tryd.prog 20 #[.agg #[.int .i64 a, .int .i64 b, .int .i64 c, .slice (some ⟨g, 0, none⟩) no co, .slice (some ⟨q, 0, none⟩) ns cz]] w (SpentPost w (.slice (some ⟨g, 0, none⟩) no co) (.slice (some ⟨q, 0, none⟩) ns cz)) := by
  have hgl : g < w.heap.size := by obtain ⟨cur, h1, _⟩ := hg; exact (Array.getElem?_eq_some_iff.1 h1).1
  have HG := hide hg
  clear hg
  have hql : q < w.heap.size := by obtain ⟨cur, h1, _⟩ := hq; exact (Array.getElem?_eq_some_iff.1 h1).1
  have HQ := hide hq
  clear hq
  go_enter Tryd.func20, Tryd.ntmps20
  go_wp2_with fail
  obtain ⟨w1, hw1⟩ : ∃ w1, w1 = w.alloc (.cells #[.int .i64 a, .int .i64 b, .int .i64 c, .slice (some ⟨g, 0, none⟩) no co, .slice (some ⟨q, 0, none⟩) ns cz] 37) := ⟨_, rfl⟩
  rw [← hw1]
  have HK1 : Hid (Keep (Rows2 (.slice (some ⟨g, 0, none⟩) no co) (.slice (some ⟨q, 0, none⟩) ns cz)) w w1) := by rw [hw1]; exact (Keep.refl _ _).alloc _
  have p4 : w1.cell? ⟨w.heap.size, 4, none⟩ = some (.slice (some ⟨q, 0, none⟩) ns cz) := by rw [hw1, World.cell?_alloc_at (hn := rfl)]; rfl
  have hz1 : w.heap.size < w1.heap.size := by rw [hw1]; simp
  have HG1 : Hid (∃ cur, w1.heap[g]? = some (.cells cur 3 (0, 0)) ∧ cur.size = co) := by rw [hw1]; exact row_of_block (unhide HG) (Below.heap_alloc _ _ _ hgl)
  have HQ1 : Hid (∃ cur, w1.heap[q]? = some (.cells cur 63 (0, 0)) ∧ cur.size = cz * 5) := by rw [hw1]; exact row_of_block (unhide HQ) (Below.heap_alloc _ _ _ hql)
  clear hw1
  go_loopw [3] (fun i wr => ∃ k : Nat, k ≤ co ∧ i = .int .i64 k ∧ Hid (∃ cur, wr.heap[g]? = some (.cells cur 3 (0, 0)) ∧ cur.size = co) ∧ Hid (Keep (fun k => k = g) w1 wr)) (fun i _ => co - (intOf i).toNat)
  case atStart => exact ⟨0, Nat.zero_le _, rfl, unhide HG1, Keep.refl _ _⟩
  case round =>
    obtain ⟨k, hk, rfl, HGr, HKr⟩ := hrel
    by_cases hlt : k < co
    · obtain ⟨u, hu⟩ := row_cell (unhide HGr) hlt
      have hf := row_free (unhide HGr)
      go_wp2
      go_roundw
      case rel => exact ⟨k + 1, by omega, by go_num, row_set (unhide HGr), keep_set (unhide HKr) _ _⟩
      case measure => simp [intOf]; omega
    · obtain rfl : co = k := by omega
      have p4r := (World.cell?_of_block ((unhide HKr).block w.heap.size hz1 (by omega))).trans p4
      have HQr : Hid (∃ cur, wr.heap[q]? = some (.cells cur 63 (0, 0)) ∧ cur.size = cz * 5) := row_of_block (unhide HQ1) ((unhide HKr).block q (by omega) (fun h => hne h.symm))
      have HKw : Hid (Keep (Rows2 (.slice (some ⟨g, 0, none⟩) no co) (.slice (some ⟨q, 0, none⟩) ns cz)) w wr) := (unhide HK1).trans (unhide HKr) (fun i _ h => .inl (by rw [h]; rfl))
      go_wp2_with fail
      go_loopw [5] (fun i wr => ∃ k : Nat, k ≤ cz ∧ i = .int .i64 k ∧ Hid (∃ cur, wr.heap[q]? = some (.cells cur 63 (0, 0)) ∧ cur.size = cz * 5) ∧ Hid (Keep (Rows2 (.slice (some ⟨g, 0, none⟩) no co) (.slice (some ⟨q, 0, none⟩) ns cz)) w wr)) (fun i _ => cz - (intOf i).toNat)
      case atStart => exact ⟨0, Nat.zero_le _, rfl, unhide HQr, unhide HKw⟩
      case round =>
        obtain ⟨k, hk2, rfl, HQs, HKs⟩ := hrel
        by_cases hlt : k < cz
        · obtain ⟨u0, hu0⟩ := row_cell (o := k * 5) (unhide HQs) (by omega)
          obtain ⟨u1, hu1⟩ := row_cell (o := k * 5 + 1) (unhide HQs) (by omega)
          obtain ⟨u2, hu2⟩ := row_cell (o := k * 5 + 2) (unhide HQs) (by omega)
          obtain ⟨u3, hu3⟩ := row_cell (o := k * 5 + 3) (unhide HQs) (by omega)
          obtain ⟨u4, hu4⟩ := row_cell (o := k * 5 + 4) (unhide HQs) (by omega)
          have hf := row_free (unhide HQs)
          have hS : Rows2 (.slice (some ⟨g, 0, none⟩) no co) (.slice (some ⟨q, 0, none⟩) ns cz) q := .inr rfl
          have HS := hide hS
          clear hS
          go_wp2
          go_roundw
          case rel => exact ⟨k + 1, by omega, by go_num, row_set (row_set (row_set (row_set (row_set (unhide HQs))))), Keep.setCell (p := ⟨q, _, none⟩) (Keep.setCell (p := ⟨q, _, none⟩) (Keep.setCell (p := ⟨q, _, none⟩) (Keep.setCell (p := ⟨q, _, none⟩) (Keep.setCell (p := ⟨q, _, none⟩) (unhide HKs) (unhide HS) _) (unhide HS) _) (unhide HS) _) (unhide HS) _) (unhide HS) _⟩
          case measure => simp [intOf]; omega
        · obtain rfl : cz = k := by omega
          go_wp2
          go_returns
          exact ⟨rfl, unhide HKs⟩

/-- Of whatever result that a run owns. -/
theorem spent_any (s : St) (base : Nat) (vo vs : Value) (w : World) (ho : w.ownsRow base 3 1 vo s.outs.length (intCells s.outs)) (hs : w.ownsRow base 63 5 vs s.stops.length (snCells s.stops)) :
    Calls Tryd.prog 20 #[.agg #[.int .i64 s.kind, .int .i64 s.val, .int .i64 (s.steps : Int), vo, vs]] w (SpentPost w vo vs) := by
  have hap := own_apart ho hs (by decide)
  rcases ho.2 with ⟨rfl, _⟩ | ⟨g, co, cg, rfl, _, h3, h4, h5, h6, _⟩
  · rcases hs.2 with ⟨rfl, _⟩ | ⟨q, cz, cq, rfl, _, k3, k4, k5, k6, _⟩
    · exact spent_nn _ _ _ w
    · unfold maxLen at k5
      exact spent_ns _ _ _ q _ cz w ⟨cq, k3, k6⟩ k4 (by omega)
  · unfold maxLen at h5
    rcases hs.2 with ⟨rfl, _⟩ | ⟨q, cz, cq, rfl, _, k3, k4, k5, k6, _⟩
    · exact spent_on _ _ _ g _ co w ⟨cg, h3, by omega⟩ h4 (by omega)
    · unfold maxLen at k5
      exact spent_os _ _ _ g _ co q _ cz w ⟨cg, h3, by omega⟩ h4 (by omega) ⟨cq, k3, k6⟩ k4 (by omega) (fun e => hap g rfl (by rw [e]; rfl))
end Go.Proofs.YtoepcplbpochpaaDoor

/-
  Results in memory once more: their shape, and what keeps them; a result written full.
-/
namespace Go.Proofs.YtoepcplbpochpaaDoor
open Go.RowKit

/-- A result as an aggregate of five cells; its lists are slices. -/
theorem ResOf.shape {w : World} {base : Nat} {v : Value} {s : St} (h : ResOf w base v s) : ∃ ao co az cz, v = .agg #[.int .i64 s.kind, .int .i64 s.val, .int .i64 (s.steps : Int), .slice ao s.outs.length co, .slice az s.stops.length cz] := by
  obtain ⟨vo, vs, rfl, o1, s1⟩ := h
  obtain ⟨ao, co, rfl, _, _⟩ := own_heldI o1
  obtain ⟨az, cz, rfl, _, _⟩ := own_heldS s1
  exact ⟨_, _, _, _, rfl⟩
theorem ResOf.below {w w' : World} {base : Nat} {v : Value} {s : St} (h : ResOf w base v s) (hb : Below w.heap.size w w') : ResOf w' base v s := by
  obtain ⟨vo, vs, rfl, o1, s1⟩ := h
  exact ⟨vo, vs, rfl, own_keep o1 (Keep.of_below hb (fun _ => False)) (fun _ _ h => h), own_keep s1 (Keep.of_below hb (fun _ => False)) (fun _ _ h => h)⟩
/-- What was written full lies between two sizes of the memory; what lies elsewhere stays. -/
theorem ResOf.keep {S : Nat → Prop} {w w' : World} {base : Nat} {v : Value} {s : St} (h : ResOf w base v s) (hk : Keep S w w') (hS : ∀ k, base ≤ k → ¬ S k) : ResOf w' base v s := by
  obtain ⟨vo, vs, rfl, o1, s1⟩ := h
  exact ⟨vo, vs, rfl, own_keep o1 hk (fun g hg => hS g (own_in o1 g hg).1), own_keep s1 hk (fun g hg => hS g (own_in s1 g hg).1)⟩
theorem spent_res {w0 : World} {s : St} {base : Nat} {v : Value} (h : ResOf w0 base v s) (w : World) (hb : Below w0.heap.size w0 w) :
    Calls Tryd.prog 20 #[v] w fun e w' => e = .returned (.tuple #[]) ∧ Keep (fun k => base ≤ k ∧ k < w0.heap.size) w w' := by
  obtain ⟨vo, vs, rfl, o1, s1⟩ := h
  have o2 := own_keep o1 (Keep.of_below hb (fun _ => False)) (fun _ _ h => h)
  have s2 := own_keep s1 (Keep.of_below hb (fun _ => False)) (fun _ _ h => h)
  refine (spent_any s base vo vs w o2 s2).mono ?_
  rintro e w' ⟨he, hk⟩
  exact ⟨he, hk.mono (fun i _ h => h.elim (fun h => own_in o1 i h.symm) (fun h => own_in s1 i h.symm))⟩
theorem five {w : World} {g : Nat} {a b c d e : Value} (h : w.heap[g]? = some (.cells #[a, b, c, d, e] 37 (0, 0))) : w.cell? ⟨g, 0, none⟩ = some a ∧ w.cell? ⟨g, 1, none⟩ = some b ∧ w.cell? ⟨g, 2, none⟩ = some c ∧ w.cell? ⟨g, 3, none⟩ = some d ∧ w.cell? ⟨g, 4, none⟩ = some e :=
  ⟨(cell_of_row w g 0 _ 37 (0, 0) h).trans rfl, (cell_of_row w g 1 _ 37 (0, 0) h).trans rfl, (cell_of_row w g 2 _ 37 (0, 0) h).trans rfl, (cell_of_row w g 3 _ 37 (0, 0) h).trans rfl, (cell_of_row w g 4 _ 37 (0, 0) h).trans rfl⟩
end Go.Proofs.YtoepcplbpochpaaDoor
