/-
  Code and args of the caller's own, with marks in their spare room, and whether they are as they were (lodgelaw.lent, roomy, back, whole).
-/
import Derived.Test.YtnpbajhlhkmljaaDoorSameRes
import Derived.Test.YtnpbajhlhkmljaaDoorCopy
import Derived.OwnWalk
import Derived.Test.YtnpbajhlhkmljaaDoorRun

namespace Go.Proofs.YtnpbajhlhkmljaaDoor
open Go.RowKit

def In4.cells (x : In4) : List Value := [.int .i64 x.op, .int .i64 x.d, .int .i64 x.a, .int .i64 x.b]
def insCells (l : List In4) : List Value := l.flatMap In4.cells
theorem insCells_len (l : List In4) : (insCells l).length = l.length * 4 := by
  unfold insCells
  induction l with
  | nil => rfl
  | cons r l ih => rw [List.flatMap_cons, List.length_append, ih, List.length_cons]; show 4 + _ = _; omega
theorem insCells_at : ∀ (l : List In4) (i : Nat), i < l.length → ∀ j, j < 4 → (insCells l)[i * 4 + j]? = (inAt l i).cells[j]?
  | [], i, h, _, _ => absurd h (by simp)
  | r :: R, 0, _, j, hj => by
    unfold insCells; rw [List.flatMap_cons, Nat.zero_mul, Nat.zero_add, List.getElem?_append_left (by exact hj)]; rfl
  | r :: R, i + 1, h, j, hj => by
    have ih := insCells_at R i (by simpa using h) j hj
    unfold insCells at *
    rw [List.flatMap_cons, List.getElem?_append_right (by show 4 ≤ _; omega), show (i + 1) * 4 + j - r.cells.length = i * 4 + j by show _ - 4 = _; omega, ih]
    rfl
theorem insCells_one (l : List In4) : ∀ v ∈ insCells l, v.oneCell' = true := by
  intro v hv
  unfold insCells at hv
  obtain ⟨x, _, hx⟩ := List.mem_flatMap.1 hv
  simp only [In4.cells, List.mem_cons, List.not_mem_nil, or_false] at hx
  rcases hx with rfl | rfl | rfl | rfl <;> rfl
theorem intCells_one (l : List Int) : ∀ v ∈ intCells l, v.oneCell' = true := by
  intro v hv; unfold intCells at hv; obtain ⟨x, _, rfl⟩ := List.mem_map.1 hv; rfl
theorem held_code {w : World} {ao : Option Addr} {L : List In4} (h : HeldIns w ao L) : 0 < L.length → ∃ ad, ao = some ad ∧ ∀ j v, (insCells L)[j]? = some v → w.cell? (ad.add j) = some v := fun h0 => by
  rcases h with h | ⟨b, off, e, _, hc⟩
  · subst h; exact absurd h0 (by simp)
  · refine ⟨_, e, fun j v hv => ?_⟩
    have hj : j < L.length * 4 := by
      rcases Nat.lt_or_ge j (L.length * 4) with h | h
      · exact h
      · rw [List.getElem?_eq_none (by rw [insCells_len]; exact h)] at hv; cases hv
    have hadd : (⟨b, off, none⟩ : Addr).add j = ⟨b, off + j, none⟩ := by unfold Addr.add; split <;> simp_all
    have key := insCells_at L (j / 4) (by omega) (j % 4) (by omega)
    rw [show j / 4 * 4 + j % 4 = j by omega, hv] at key
    obtain ⟨k0, k1, k2, k3⟩ := hc (j / 4) (by omega)
    rw [hadd, show off + j = off + j / 4 * 4 + j % 4 by omega]
    have h5 : j % 4 < 4 := by omega
    match hm : j % 4, h5 with
    | 0, _ => rw [hm] at key; rw [Nat.add_zero, k0]; exact key.symm
    | 1, _ => rw [hm] at key; rw [k1]; exact key.symm
    | 2, _ => rw [hm] at key; rw [k2]; exact key.symm
    | 3, _ => rw [hm] at key; rw [k3]; exact key.symm
theorem row_code {w : World} {g : Nat} {L : List In4} {xs : List Value} {t : TypeId} (h : w.heap[g]? = some (.cells (insCells L ++ xs).toArray t (0, 0))) : LieI w g 0 L := fun i hi => by
  have key : ∀ j, j < 4 → w.cell? ⟨g, i * 4 + j, none⟩ = (inAt L i).cells[j]? := fun j hj => by
    rw [cell_of_row w g _ _ t (0, 0) h, ← insCells_at L i hi j hj]
    simp only [List.getElem?_toArray]
    rw [List.getElem?_append_left (by rw [insCells_len]; omega)]
  rw [Nat.zero_add]
  exact ⟨key 0 (by decide), key 1 (by decide), key 2 (by decide), key 3 (by decide)⟩
theorem LieI.set {w : World} {g o : Nat} {L : List In4} {v : Value} (h : LieI w g 0 L) (ho : L.length * 4 ≤ o) : LieI (w.setCell ⟨g, o, none⟩ v) g 0 L := fun i hi => by
  obtain ⟨h0, h1, h2, h3⟩ := h i hi
  exact ⟨cell_set h0 (by omega), cell_set h1 (by omega), cell_set h2 (by omega), cell_set h3 (by omega)⟩
theorem some_cell {w : World} {g o : Nat} {cs : Array Value} {t : TypeId} (h : w.heap[g]? = some (.cells cs t (0, 0))) (ho : o < cs.size) : ∃ u, w.cell? ⟨g, o, none⟩ = some u :=
  ⟨cs[o], by rw [cell_of_row w g o cs t (0, 0) h]; exact Array.getElem?_eq_getElem _⟩
theorem Tryd.i42 : (Tryd.prog.info? 58).map (fun i => (i.zero, i.size, i.bytes)) = some (some (.agg #[.int .i64 0, .int .i64 0, .int .i64 0, .int .i64 0]), 4, 32) := by kernel_rfl
theorem Tryd.i3' : (Tryd.prog.info? 3).map (fun i => (i.zero, i.size, i.bytes)) = some (some (.int .i64 0), 1, 8) := by kernel_rfl
theorem Tryd.size58 : (Tryd.prog.info? 58).map (·.size) = some 4 := by kernel_rfl
theorem Tryd.sizeI : (Tryd.prog.info? 3).map (·.size) = some 1 := by kernel_rfl

/-- Code that was lent: where it lies, and its marks. -/
structure Lent (w : World) (g : Nat) (L : List In4) : Prop where
  lie : LieI w g 0 L
  m0 : w.cell? ⟨g, L.length * 4, none⟩ = some (.int .i64 (-77))
  m1 : w.cell? ⟨g, (L.length + 1) * 4, none⟩ = some (.int .i64 (-77))
  lt : g < w.heap.size
theorem Lent.below {w w' : World} {g B : Nat} {L : List In4} (h : Lent w g L) (hb : Below B w w') (hB : g < B) : Lent w' g L :=
  ⟨h.lie.below hb hB, (hb.cell (p := ⟨g, L.length * 4, none⟩) hB).trans h.m0, (hb.cell (p := ⟨g, (L.length + 1) * 4, none⟩) hB).trans h.m1, Nat.lt_of_lt_of_le h.lt hb.size⟩
structure Roomy (w : World) (g : Nat) (xs : List Int) : Prop where
  lie : ∀ i, i < xs.length → w.cell? ⟨g, i, none⟩ = some (.int .i64 (nth xs i))
  m0 : w.cell? ⟨g, xs.length, none⟩ = some (.int .i64 (-77))
  m1 : w.cell? ⟨g, xs.length + 1, none⟩ = some (.int .i64 (-77))
  lt : g < w.heap.size
theorem Roomy.below {w w' : World} {g B : Nat} {xs : List Int} (h : Roomy w g xs) (hb : Below B w w') (hB : g < B) : Roomy w' g xs :=
  ⟨fun i hi => (hb.cell (p := ⟨g, i, none⟩) hB).trans (h.lie i hi), (hb.cell (p := ⟨g, xs.length, none⟩) hB).trans h.m0, (hb.cell (p := ⟨g, xs.length + 1, none⟩) hB).trans h.m1, Nat.lt_of_lt_of_le h.lt hb.size⟩

set_option maxRecDepth 100000 in
set_option maxHeartbeats 2000000 in
theorem lent_any (L : List In4) (ao : Option Addr) (cap : Nat) (w : World) (hH : HeldIns w ao L) (hlen : L.length * 32 ≤ 140737488351232) :
    Calls Tryd.prog 10 #[.slice ao L.length cap] w fun e w' => e = .returned (.slice (some ⟨w.heap.size, 0, none⟩) L.length (L.length + 2)) ∧ Lent w' w.heap.size L ∧ Below w.heap.size w w' := by
  obtain ⟨i0, hi, hz0, hz1, hz2⟩ := info_parts Tryd.i42
  have hmk : (Instr.makeSlice 22 (.int .i64 ((L.length : Int) + 2)) (.int .i64 ((L.length : Int) + 2))).run Tryd.prog w = .ok (.slice (some ⟨w.heap.size, 0, none⟩) (L.length + 2) (L.length + 2)) (w.alloc (.cells (madeCells #[.int .i64 0, .int .i64 0, .int .i64 0, .int .i64 0] ((L.length + 2) * 4)) 58)) := by
    have := run_make (P := Tryd.prog) w 22 58 i0 _ Tryd.underlying22 hi hz0 .i64 .i64 ((L.length : Int) + 2) ((L.length : Int) + 2) (by omega) (by omega) (by rw [hz2]; omega) (by omega)
    rw [hz1, show ((L.length : Int) + 2).toNat = L.length + 2 by omega] at this
    exact this
  obtain ⟨w1, hw1⟩ : ∃ w1, w1 = w.alloc (.cells (madeCells #[.int .i64 0, .int .i64 0, .int .i64 0, .int .i64 0] ((L.length + 2) * 4)) 58) := ⟨_, rfl⟩
  rw [← hw1] at hmk
  have hg1 : w1.heap[w.heap.size]? = some (.cells (madeCells #[.int .i64 0, .int .i64 0, .int .i64 0, .int .i64 0] ((L.length + 2) * 4)) 58 (0, 0)) := by rw [hw1]; exact heap_alloc_new _ _
  have hb1 : Below w.heap.size w w1 := by rw [hw1]; exact (Below.refl _ _).alloc (Nat.le_refl _) _
  have hcs : (madeCells #[Value.int .i64 0, .int .i64 0, .int .i64 0, .int .i64 0] ((L.length + 2) * 4)).size = (L.length + 2) * 4 := by simp [madeCells]
  obtain ⟨w2, hcp, hg2, hk2⟩ := copy_keep (P := Tryd.prog) 22 22 58 4 Tryd.underlying22 Tryd.size58 ao w.heap.size (L.length + 2) (L.length + 2) L.length cap (by omega) _ 58 hg1 (insCells L) (insCells_len L) (held_code (hH.below hb1)) (by rw [insCells_len, hcs]; omega) (insCells_one L)
  have hsz2 : (insCells L ++ (madeCells #[Value.int .i64 0, .int .i64 0, .int .i64 0, .int .i64 0] ((L.length + 2) * 4)).toList.drop (insCells L).length).toArray.size = (L.length + 2) * 4 := by
    simp only [List.size_toArray, List.length_append, List.length_drop, Array.length_toList, insCells_len, hcs]; omega
  obtain ⟨u0, hu0⟩ := some_cell (o := L.length * 4) hg2 (by rw [hsz2]; omega)
  obtain ⟨u1, hu1⟩ := some_cell (o := (L.length + 1) * 4) hg2 (by rw [hsz2]; omega)
  have hf2 : ∀ o, w2.frozen? ⟨w.heap.size, o, none⟩ = false := fun o => by simp [World.frozen?, hg2]
  have HL2 := hide (row_code hg2)
  have HB2 : Hid (Below w.heap.size w w2) := hb1.trans (hk2.below hb1.size (fun k hk e => by omega))
  have HLT : Hid (w.heap.size < w2.heap.size) := (Array.getElem?_eq_some_iff.1 hg2).1
  have hn1 : L.length * 4 ≠ (L.length + 1) * 4 := by omega
  have hn2 : (L.length + 1) * 4 ≠ L.length * 4 := by omega
  clear hg1 hb1 hcs hg2 hk2 hsz2 hw1 hi hz0 hz1 hz2
  go_enter Tryd.func10, Tryd.ntmps10
  go_wp2_with fail
  go_ret
  refine ⟨rfl, ⟨((unhide HL2).set (Nat.le_refl _)).set (by omega), cell_set (cell_put hu0) hn1, cell_put (cell_set hu1 hn2), by simp; exact unhide HLT⟩, ((unhide HB2).setCell (p := ⟨w.heap.size, L.length * 4, none⟩) (Nat.le_refl _) _).setCell (p := ⟨w.heap.size, (L.length + 1) * 4, none⟩) (Nat.le_refl _) _⟩

theorem row_ints {w : World} {g : Nat} {xs : List Int} {ys : List Value} {t : TypeId} (h : w.heap[g]? = some (.cells (intCells xs ++ ys).toArray t (0, 0))) : ∀ i, i < xs.length → w.cell? ⟨g, i, none⟩ = some (.int .i64 (nth xs i)) := fun i hi => by
  rw [cell_of_row w g _ _ t (0, 0) h]
  simp only [List.getElem?_toArray]
  rw [List.getElem?_append_left (by rw [intCells_len]; exact hi)]
  unfold intCells nth
  rw [List.getElem?_map, List.getElem?_eq_getElem hi, List.getD_eq_getElem?_getD, List.getElem?_eq_getElem hi]
  rfl
theorem held_nums {w : World} {ao : Option Addr} {xs : List Int} (h : HeldI w ao xs) : 0 < xs.length → ∃ ad, ao = some ad ∧ ∀ j v, (intCells xs)[j]? = some v → w.cell? (ad.add j) = some v := fun h0 => by
  rcases h with h | ⟨b, off, e, _, hc⟩
  · subst h; exact absurd h0 (by simp)
  · refine ⟨_, e, fun j v hv => ?_⟩
    have hj : j < xs.length := by
      rcases Nat.lt_or_ge j xs.length with h | h
      · exact h
      · rw [List.getElem?_eq_none (by rw [intCells_len]; exact h)] at hv; cases hv
    have hadd : (⟨b, off, none⟩ : Addr).add j = ⟨b, off + j, none⟩ := by unfold Addr.add; split <;> simp_all
    rw [hadd, hc j hj]
    unfold intCells at hv
    rw [List.getElem?_map, List.getElem?_eq_getElem hj] at hv
    unfold nth
    rw [List.getD_eq_getElem?_getD, List.getElem?_eq_getElem hj]
    exact hv

set_option maxRecDepth 100000 in
set_option maxHeartbeats 2000000 in
theorem roomy_any (xs : List Int) (ao : Option Addr) (cap : Nat) (w : World) (hH : HeldI w ao xs) (hlen : xs.length * 8 ≤ 140737488351232) :
    Calls Tryd.prog 11 #[.slice ao xs.length cap] w fun e w' => e = .returned (.slice (some ⟨w.heap.size, 0, none⟩) xs.length (xs.length + 2)) ∧ Roomy w' w.heap.size xs ∧ Below w.heap.size w w' := by
  obtain ⟨i0, hi, hz0, hz1, hz2⟩ := info_parts Tryd.i3'
  have hmk : (Instr.makeSlice 32 (.int .i64 ((xs.length : Int) + 2)) (.int .i64 ((xs.length : Int) + 2))).run Tryd.prog w = .ok (.slice (some ⟨w.heap.size, 0, none⟩) (xs.length + 2) (xs.length + 2)) (w.alloc (.cells (madeCells #[.int .i64 0] ((xs.length + 2) * 1)) 3)) := by
    have := run_make (P := Tryd.prog) w 32 3 i0 _ Tryd.underlying32 hi hz0 .i64 .i64 ((xs.length : Int) + 2) ((xs.length : Int) + 2) (by omega) (by omega) (by rw [hz2]; omega) (by omega)
    rw [hz1, show ((xs.length : Int) + 2).toNat = xs.length + 2 by omega] at this
    exact this
  obtain ⟨w1, hw1⟩ : ∃ w1, w1 = w.alloc (.cells (madeCells #[.int .i64 0] ((xs.length + 2) * 1)) 3) := ⟨_, rfl⟩
  rw [← hw1] at hmk
  have hg1 : w1.heap[w.heap.size]? = some (.cells (madeCells #[.int .i64 0] ((xs.length + 2) * 1)) 3 (0, 0)) := by rw [hw1]; exact heap_alloc_new _ _
  have hb1 : Below w.heap.size w w1 := by rw [hw1]; exact (Below.refl _ _).alloc (Nat.le_refl _) _
  have hcs : (madeCells #[Value.int .i64 0] ((xs.length + 2) * 1)).size = xs.length + 2 := by simp [madeCells]
  obtain ⟨w2, hcp, hg2, hk2⟩ := copy_keep (P := Tryd.prog) 32 32 3 1 Tryd.underlying32 Tryd.sizeI ao w.heap.size (xs.length + 2) (xs.length + 2) xs.length cap (by omega) _ 3 hg1 (intCells xs) (by rw [intCells_len, Nat.mul_one]) (held_nums (hH.below hb1)) (by rw [intCells_len, hcs]; omega) (intCells_one xs)
  have hsz2 : (intCells xs ++ (madeCells #[Value.int .i64 0] ((xs.length + 2) * 1)).toList.drop (intCells xs).length).toArray.size = xs.length + 2 := by
    simp only [List.size_toArray, List.length_append, List.length_drop, Array.length_toList, intCells_len, hcs]; omega
  obtain ⟨u0, hu0⟩ := some_cell (o := xs.length) hg2 (by rw [hsz2]; omega)
  obtain ⟨u1, hu1⟩ := some_cell (o := xs.length + 1) hg2 (by rw [hsz2]; omega)
  have hf2 : ∀ o, w2.frozen? ⟨w.heap.size, o, none⟩ = false := fun o => by simp [World.frozen?, hg2]
  have HL2 := hide (row_ints hg2)
  have HB2 : Hid (Below w.heap.size w w2) := hb1.trans (hk2.below hb1.size (fun k hk e => by omega))
  have HLT : Hid (w.heap.size < w2.heap.size) := (Array.getElem?_eq_some_iff.1 hg2).1
  have hn1 : xs.length ≠ xs.length + 1 := by omega
  have hn2 : xs.length + 1 ≠ xs.length := by omega
  clear hg1 hb1 hcs hg2 hk2 hsz2 hw1 hi hz0 hz1 hz2
  go_enter Tryd.func11, Tryd.ntmps11
  go_wp2_with fail
  go_ret
  refine ⟨rfl, ⟨fun i hi => cell_set (cell_set (unhide HL2 i hi) (by omega)) (by omega), cell_set (cell_put hu0) hn1, cell_put (cell_set hu1 hn2), by simp; exact unhide HLT⟩, ((unhide HB2).setCell (p := ⟨w.heap.size, xs.length, none⟩) (Nat.le_refl _) _).setCell (p := ⟨w.heap.size, xs.length + 1, none⟩) (Nat.le_refl _) _⟩

set_option maxRecDepth 100000 in
set_option maxHeartbeats 2000000 in
theorem back_any (L : List In4) (g : Nat) (ao : Option Addr) (cap : Nat) (w : World) (hH : HeldIns w ao L) (hL : Lent w g L) (hlen : L.length * 32 ≤ 140737488351232) :
    Calls Tryd.prog 16 #[.slice (some ⟨g, 0, none⟩) L.length (L.length + 2), .slice ao L.length cap] w fun e w' => e = .returned (.bool true) ∧ Below w.heap.size w w' := by
  have KS := hide (fun w c1 (hA : HeldIns w (some ⟨g, 0, none⟩) L) (hB : HeldIns w ao L) => sameCode_any L (some ⟨g, 0, none⟩) ao c1 cap w hA hB (by omega))
  have HH := hide hH
  have HL := hide hL
  clear hH hL
  go_enter Tryd.func16, Tryd.ntmps16
  go_wp2_with fail
  refine (unhide KS w _ (.inr ⟨g, 0, rfl, (unhide HL).lt, (unhide HL).lie⟩) (unhide HH)).mono ?_
  rintro e w2 ⟨rfl, hb2⟩
  have HL2 := (unhide HL).below hb2 (unhide HL).lt
  have m0 := HL2.m0
  have m1 := HL2.m1
  have HB2 := hide hb2
  clear HL2 hb2
  go_wp2_with fail
  go_ret
  exact ⟨rfl, unhide HB2⟩

set_option maxRecDepth 100000 in
set_option maxHeartbeats 2000000 in
theorem whole_any (xs : List Int) (g : Nat) (ao : Option Addr) (cap : Nat) (w : World) (hH : HeldI w ao xs) (hL : Roomy w g xs) (hlen : xs.length * 8 ≤ 140737488351232) :
    Calls Tryd.prog 17 #[.slice (some ⟨g, 0, none⟩) xs.length (xs.length + 2), .slice ao xs.length cap] w fun e w' => e = .returned (.bool true) ∧ Below w.heap.size w w' := by
  have KS := hide (fun w c1 (hA : HeldI w (some ⟨g, 0, none⟩) xs) (hB : HeldI w ao xs) => sameInts_any xs (some ⟨g, 0, none⟩) ao c1 cap w hA hB (by omega))
  have HH := hide hH
  have HL := hide hL
  clear hH hL
  go_enter Tryd.func17, Tryd.ntmps17
  go_wp2_with fail
  refine (unhide KS w _ (.inr ⟨g, 0, rfl, (unhide HL).lt, fun i hi => by rw [Nat.zero_add]; exact (unhide HL).lie i hi⟩) (unhide HH)).mono ?_
  rintro e w2 ⟨rfl, hb2⟩
  have HL2 := (unhide HL).below hb2 (unhide HL).lt
  have m0 := HL2.m0
  have m1 := HL2.m1
  have HB2 := hide hb2
  clear HL2 hb2
  go_wp2_with fail
  go_ret
  exact ⟨rfl, unhide HB2⟩
end Go.Proofs.YtnpbajhlhkmljaaDoor

/-
  The caller writes a result full, with its spare room (lodgelaw.spent): nothing else is written.
-/
namespace Go.Proofs.YtnpbajhlhkmljaaDoor
open Go.RowKit

/-- Which blocks a result's lists lie in. -/
def Rows2 (vo vs : Value) : Nat → Prop := fun k => some k = vo.ownBlock ∨ some k = vs.ownBlock
def SpentPost (w : World) (vo vs : Value) (e : Ending) (w' : World) : Prop := e = .returned (.tuple #[]) ∧ Keep (Rows2 vo vs) w w'
theorem row_set {w : World} {g o n : Nat} {t : TypeId} {v : Value} (h : ∃ cur, w.heap[g]? = some (.cells cur t (0, 0)) ∧ cur.size = n) : ∃ cur, (w.setCell ⟨g, o, none⟩ v).heap[g]? = some (.cells cur t (0, 0)) ∧ cur.size = n := by
  obtain ⟨cur, h1, h2⟩ := h
  exact ⟨_, heap_setCell_same w g o cur t v h1, by rw [Array.size_setIfInBounds]; exact h2⟩
theorem row_cell {w : World} {g o n : Nat} {t : TypeId} (h : ∃ cur, w.heap[g]? = some (.cells cur t (0, 0)) ∧ cur.size = n) (ho : o < n) : ∃ u, w.cell? ⟨g, o, none⟩ = some u := by
  obtain ⟨cur, h1, h2⟩ := h
  exact ⟨cur[o]'(by omega), by rw [cell_of_row w g o cur t (0, 0) h1]; exact Array.getElem?_eq_getElem _⟩
theorem row_free {w : World} {g n : Nat} {t : TypeId} (h : ∃ cur, w.heap[g]? = some (.cells cur t (0, 0)) ∧ cur.size = n) : ∀ o, w.frozen? ⟨g, o, none⟩ = false := by
  obtain ⟨cur, h1, _⟩ := h
  exact fun o => by simp [World.frozen?, h1]
theorem row_of_block {w w' : World} {g n : Nat} {t : TypeId} (h : ∃ cur, w.heap[g]? = some (.cells cur t (0, 0)) ∧ cur.size = n) (hb : w'.heap[g]? = w.heap[g]?) : ∃ cur, w'.heap[g]? = some (.cells cur t (0, 0)) ∧ cur.size = n := by
  obtain ⟨cur, h1, h2⟩ := h
  exact ⟨cur, hb.trans h1, h2⟩

set_option maxRecDepth 100000 in
set_option maxHeartbeats 2000000 in
theorem spent_nn (a b c : Int) (w : World) :
    Calls Tryd.prog 15 #[.agg #[.int .i64 a, .int .i64 b, .int .i64 c, .slice none 0 0, .slice none 0 0]] w (SpentPost w (.slice none 0 0) (.slice none 0 0)) := by
  go_enter Tryd.func15, Tryd.ntmps15
  go_wp2_with fail
  iterate 1 (refine wp_loop_rounds 1 ?_; rw [rounds_succ]; go_wp2_with fail)
  iterate 1 (refine wp_loop_rounds 1 ?_; rw [rounds_succ]; go_wp2_with fail)
  go_returns
  exact ⟨rfl, (Keep.refl _ _).alloc _⟩

set_option maxRecDepth 100000 in
set_option maxHeartbeats 2000000 in
theorem spent_on (a b c : Int) (g no co : Nat) (w : World) (hg : ∃ cur, w.heap[g]? = some (.cells cur 3 (0, 0)) ∧ cur.size = co) (_hno : no ≤ co) (hco : co ≤ 9223372036854775807) :
    Calls Tryd.prog 15 #[.agg #[.int .i64 a, .int .i64 b, .int .i64 c, .slice (some ⟨g, 0, none⟩) no co, .slice none 0 0]] w (SpentPost w (.slice (some ⟨g, 0, none⟩) no co) (.slice none 0 0)) := by
  have hgl : g < w.heap.size := by obtain ⟨cur, h1, _⟩ := hg; exact (Array.getElem?_eq_some_iff.1 h1).1
  have HG := hide hg
  clear hg
  go_enter Tryd.func15, Tryd.ntmps15
  go_wp2_with fail
  obtain ⟨w1, hw1⟩ : ∃ w1, w1 = w.alloc (.cells #[.int .i64 a, .int .i64 b, .int .i64 c, .slice (some ⟨g, 0, none⟩) no co, .slice none 0 0] 37) := ⟨_, rfl⟩
  rw [← hw1]
  have HK1 : Hid (Keep (Rows2 (.slice (some ⟨g, 0, none⟩) no co) (.slice none 0 0)) w w1) := by rw [hw1]; exact (Keep.refl _ _).alloc _
  have p4 : w1.cell? ⟨w.heap.size, 4, none⟩ = some (.slice none 0 0) := by rw [hw1, World.cell?_alloc_at (hn := rfl)]; rfl
  have hz1 : w.heap.size < w1.heap.size := by rw [hw1]; simp
  have HG1 : Hid (∃ cur, w1.heap[g]? = some (.cells cur 3 (0, 0)) ∧ cur.size = co) := by rw [hw1]; exact row_of_block (unhide HG) (Below.heap_alloc _ _ _ hgl)
  clear hw1
  go_loopw [3] (fun i wr => ∃ k : Nat, k ≤ co ∧ i = .int .i64 k ∧ Hid (∃ cur, wr.heap[g]? = some (.cells cur 3 (0, 0)) ∧ cur.size = co) ∧ Hid (Keep (fun k => k = g) w1 wr)) (fun i _ => co - (intOf i).toNat)
  case atStart => exact ⟨0, Nat.zero_le _, rfl, unhide HG1, Keep.refl _ _⟩
  case round =>
    obtain ⟨k, hk, rfl, HGr, HKr⟩ := hrel
    by_cases hlt : k < co
    · obtain ⟨u, hu⟩ := row_cell (unhide HGr) hlt
      have hf := row_free (unhide HGr)
      go_wp2
      go_roundw
      case rel => exact ⟨k + 1, by omega, by go_num, row_set (unhide HGr), keep_set (unhide HKr) _ _⟩
      case measure => simp [intOf]; omega
    · obtain rfl : co = k := by omega
      have p4r := (World.cell?_of_block ((unhide HKr).block w.heap.size hz1 (by omega))).trans p4
      have HKw : Hid (Keep (Rows2 (.slice (some ⟨g, 0, none⟩) no co) (.slice none 0 0)) w wr) := (unhide HK1).trans (unhide HKr) (fun i _ h => .inl (by rw [h]; rfl))
      go_wp2_with fail
      refine wp_loop_rounds 1 ?_
      rw [rounds_succ]
      go_wp2_with fail
      go_returns
      exact ⟨rfl, unhide HKw⟩

set_option maxRecDepth 100000 in
set_option maxHeartbeats 2000000 in
theorem spent_ns (a b c : Int) (q ns cz : Nat) (w : World) (hq : ∃ cur, w.heap[q]? = some (.cells cur 74 (0, 0)) ∧ cur.size = cz * 5) (_hns : ns ≤ cz) (hcz : cz ≤ 9223372036854775807) :
    Calls Tryd.prog 15 #[.agg #[.int .i64 a, .int .i64 b, .int .i64 c, .slice none 0 0, .slice (some ⟨q, 0, none⟩) ns cz]] w (SpentPost w (.slice none 0 0) (.slice (some ⟨q, 0, none⟩) ns cz)) := by
  have hql : q < w.heap.size := by obtain ⟨cur, h1, _⟩ := hq; exact (Array.getElem?_eq_some_iff.1 h1).1
  have HQ := hide hq
  clear hq
  go_enter Tryd.func15, Tryd.ntmps15
  go_wp2_with fail
  obtain ⟨w1, hw1⟩ : ∃ w1, w1 = w.alloc (.cells #[.int .i64 a, .int .i64 b, .int .i64 c, .slice none 0 0, .slice (some ⟨q, 0, none⟩) ns cz] 37) := ⟨_, rfl⟩
  rw [← hw1]
  have HK1 : Hid (Keep (Rows2 (.slice none 0 0) (.slice (some ⟨q, 0, none⟩) ns cz)) w w1) := by rw [hw1]; exact (Keep.refl _ _).alloc _
  have p4 : w1.cell? ⟨w.heap.size, 4, none⟩ = some (.slice (some ⟨q, 0, none⟩) ns cz) := by rw [hw1, World.cell?_alloc_at (hn := rfl)]; rfl
  have hz1 : w.heap.size < w1.heap.size := by rw [hw1]; simp
  have HQ1 : Hid (∃ cur, w1.heap[q]? = some (.cells cur 74 (0, 0)) ∧ cur.size = cz * 5) := by rw [hw1]; exact row_of_block (unhide HQ) (Below.heap_alloc _ _ _ hql)
  clear hw1
  refine wp_loop_rounds 1 ?_
  rw [rounds_succ]
  have p4r := p4
  have HQr := HQ1
  have HKw := HK1
  go_wp2_with fail
  go_loopw [5] (fun i wr => ∃ k : Nat, k ≤ cz ∧ i = .int .i64 k ∧ Hid (∃ cur, wr.heap[q]? = some (.cells cur 74 (0, 0)) ∧ cur.size = cz * 5) ∧ Hid (Keep (Rows2 (.slice none 0 0) (.slice (some ⟨q, 0, none⟩) ns cz)) w wr)) (fun i _ => cz - (intOf i).toNat)
  case atStart => exact ⟨0, Nat.zero_le _, rfl, unhide HQr, unhide HKw⟩
  case round =>
    obtain ⟨k, hk2, rfl, HQs, HKs⟩ := hrel
    by_cases hlt : k < cz
    · obtain ⟨u0, hu0⟩ := row_cell (o := k * 5) (unhide HQs) (by omega)
      obtain ⟨u1, hu1⟩ := row_cell (o := k * 5 + 1) (unhide HQs) (by omega)
      obtain ⟨u2, hu2⟩ := row_cell (o := k * 5 + 2) (unhide HQs) (by omega)
      obtain ⟨u3, hu3⟩ := row_cell (o := k * 5 + 3) (unhide HQs) (by omega)
      obtain ⟨u4, hu4⟩ := row_cell (o := k * 5 + 4) (unhide HQs) (by omega)
      have hf := row_free (unhide HQs)
      have hS : Rows2 (.slice none 0 0) (.slice (some ⟨q, 0, none⟩) ns cz) q := .inr rfl
      have HS := hide hS
      clear hS
      go_wp2
      go_roundw
      case rel => exact ⟨k + 1, by omega, by go_num, row_set (row_set (row_set (row_set (row_set (unhide HQs))))), Keep.setCell (p := ⟨q, _, none⟩) (Keep.setCell (p := ⟨q, _, none⟩) (Keep.setCell (p := ⟨q, _, none⟩) (Keep.setCell (p := ⟨q, _, none⟩) (Keep.setCell (p := ⟨q, _, none⟩) (unhide HKs) (unhide HS) _) (unhide HS) _) (unhide HS) _) (unhide HS) _) (unhide HS) _⟩
      case measure => simp [intOf]; omega
    · obtain rfl : cz = k := by omega
      go_wp2
      go_returns
      exact ⟨rfl, unhide HKs⟩

set_option maxRecDepth 100000 in
set_option maxHeartbeats 2000000 in
theorem spent_os (a b c : Int) (g no co q ns cz : Nat) (w : World) (hg : ∃ cur, w.heap[g]? = some (.cells cur 3 (0, 0)) ∧ cur.size = co) (_hno : no ≤ co) (hco : co ≤ 9223372036854775807) (hq : ∃ cur, w.heap[q]? = some (.cells cur 74 (0, 0)) ∧ cur.size = cz * 5) (_hns : ns ≤ cz) (hcz : cz ≤ 9223372036854775807) (hne : g ≠ q) :
    Calls Tryd.prog 15 #[.agg #[.int .i64 a, .int .i64 b, .int .i64 c, .slice (some ⟨g, 0, none⟩) no co, .slice (some ⟨q, 0, none⟩) ns cz]] w (SpentPost w (.slice (some ⟨g, 0, none⟩) no co) (.slice (some ⟨q, 0, none⟩) ns cz)) := by
  have hgl : g < w.heap.size := by obtain ⟨cur, h1, _⟩ := hg; exact (Array.getElem?_eq_some_iff.1 h1).1
  have HG := hide hg
  clear hg
  have hql : q < w.heap.size := by obtain ⟨cur, h1, _⟩ := hq; exact (Array.getElem?_eq_some_iff.1 h1).1
  have HQ := hide hq
  clear hq
  go_enter Tryd.func15, Tryd.ntmps15
  go_wp2_with fail
  obtain ⟨w1, hw1⟩ : ∃ w1, w1 = w.alloc (.cells #[.int .i64 a, .int .i64 b, .int .i64 c, .slice (some ⟨g, 0, none⟩) no co, .slice (some ⟨q, 0, none⟩) ns cz] 37) := ⟨_, rfl⟩
  rw [← hw1]
  have HK1 : Hid (Keep (Rows2 (.slice (some ⟨g, 0, none⟩) no co) (.slice (some ⟨q, 0, none⟩) ns cz)) w w1) := by rw [hw1]; exact (Keep.refl _ _).alloc _
  have p4 : w1.cell? ⟨w.heap.size, 4, none⟩ = some (.slice (some ⟨q, 0, none⟩) ns cz) := by rw [hw1, World.cell?_alloc_at (hn := rfl)]; rfl
  have hz1 : w.heap.size < w1.heap.size := by rw [hw1]; simp
  have HG1 : Hid (∃ cur, w1.heap[g]? = some (.cells cur 3 (0, 0)) ∧ cur.size = co) := by rw [hw1]; exact row_of_block (unhide HG) (Below.heap_alloc _ _ _ hgl)
  have HQ1 : Hid (∃ cur, w1.heap[q]? = some (.cells cur 74 (0, 0)) ∧ cur.size = cz * 5) := by rw [hw1]; exact row_of_block (unhide HQ) (Below.heap_alloc _ _ _ hql)
  clear hw1
  go_loopw [3] (fun i wr => ∃ k : Nat, k ≤ co ∧ i = .int .i64 k ∧ Hid (∃ cur, wr.heap[g]? = some (.cells cur 3 (0, 0)) ∧ cur.size = co) ∧ Hid (Keep (fun k => k = g) w1 wr)) (fun i _ => co - (intOf i).toNat)
  case atStart => exact ⟨0, Nat.zero_le _, rfl, unhide HG1, Keep.refl _ _⟩
  case round =>
    obtain ⟨k, hk, rfl, HGr, HKr⟩ := hrel
    by_cases hlt : k < co
    · obtain ⟨u, hu⟩ := row_cell (unhide HGr) hlt
      have hf := row_free (unhide HGr)
      go_wp2
      go_roundw
      case rel => exact ⟨k + 1, by omega, by go_num, row_set (unhide HGr), keep_set (unhide HKr) _ _⟩
      case measure => simp [intOf]; omega
    · obtain rfl : co = k := by omega
      have p4r := (World.cell?_of_block ((unhide HKr).block w.heap.size hz1 (by omega))).trans p4
      have HQr : Hid (∃ cur, wr.heap[q]? = some (.cells cur 74 (0, 0)) ∧ cur.size = cz * 5) := row_of_block (unhide HQ1) ((unhide HKr).block q (by omega) (fun h => hne h.symm))
      have HKw : Hid (Keep (Rows2 (.slice (some ⟨g, 0, none⟩) no co) (.slice (some ⟨q, 0, none⟩) ns cz)) w wr) := (unhide HK1).trans (unhide HKr) (fun i _ h => .inl (by rw [h]; rfl))
      go_wp2_with fail
      go_loopw [5] (fun i wr => ∃ k : Nat, k ≤ cz ∧ i = .int .i64 k ∧ Hid (∃ cur, wr.heap[q]? = some (.cells cur 74 (0, 0)) ∧ cur.size = cz * 5) ∧ Hid (Keep (Rows2 (.slice (some ⟨g, 0, none⟩) no co) (.slice (some ⟨q, 0, none⟩) ns cz)) w wr)) (fun i _ => cz - (intOf i).toNat)
      case atStart => exact ⟨0, Nat.zero_le _, rfl, unhide HQr, unhide HKw⟩
      case round =>
        obtain ⟨k, hk2, rfl, HQs, HKs⟩ := hrel
        by_cases hlt : k < cz
        · obtain ⟨u0, hu0⟩ := row_cell (o := k * 5) (unhide HQs) (by omega)
          obtain ⟨u1, hu1⟩ := row_cell (o := k * 5 + 1) (unhide HQs) (by omega)
          obtain ⟨u2, hu2⟩ := row_cell (o := k * 5 + 2) (unhide HQs) (by omega)
          obtain ⟨u3, hu3⟩ := row_cell (o := k * 5 + 3) (unhide HQs) (by omega)
          obtain ⟨u4, hu4⟩ := row_cell (o := k * 5 + 4) (unhide HQs) (by omega)
          have hf := row_free (unhide HQs)
          have hS : Rows2 (.slice (some ⟨g, 0, none⟩) no co) (.slice (some ⟨q, 0, none⟩) ns cz) q := .inr rfl
          have HS := hide hS
          clear hS
          go_wp2
          go_roundw
          case rel => exact ⟨k + 1, by omega, by go_num, row_set (row_set (row_set (row_set (row_set (unhide HQs))))), Keep.setCell (p := ⟨q, _, none⟩) (Keep.setCell (p := ⟨q, _, none⟩) (Keep.setCell (p := ⟨q, _, none⟩) (Keep.setCell (p := ⟨q, _, none⟩) (Keep.setCell (p := ⟨q, _, none⟩) (unhide HKs) (unhide HS) _) (unhide HS) _) (unhide HS) _) (unhide HS) _) (unhide HS) _⟩
          case measure => simp [intOf]; omega
        · obtain rfl : cz = k := by omega
          go_wp2
          go_returns
          exact ⟨rfl, unhide HKs⟩

/-- Of whatever result that a run owns. -/
theorem spent_any (s : St) (base : Nat) (vo vs : Value) (w : World) (ho : w.ownsRow base 3 1 vo s.outs.length (intCells s.outs)) (hs : w.ownsRow base 74 5 vs s.stops.length (snCells s.stops)) :
    Calls Tryd.prog 15 #[.agg #[.int .i64 s.kind, .int .i64 s.val, .int .i64 (s.steps : Int), vo, vs]] w (SpentPost w vo vs) := by
  have hap := own_apart ho hs (by decide)
  rcases ho.2 with ⟨rfl, _⟩ | ⟨g, co, cg, rfl, _, h3, h4, h5, h6, _⟩
  · rcases hs.2 with ⟨rfl, _⟩ | ⟨q, cz, cq, rfl, _, k3, k4, k5, k6, _⟩
    · exact spent_nn _ _ _ w
    · unfold maxLen at k5
      exact spent_ns _ _ _ q _ cz w ⟨cq, k3, k6⟩ k4 (by omega)
  · unfold maxLen at h5
    rcases hs.2 with ⟨rfl, _⟩ | ⟨q, cz, cq, rfl, _, k3, k4, k5, k6, _⟩
    · exact spent_on _ _ _ g _ co w ⟨cg, h3, by omega⟩ h4 (by omega)
    · unfold maxLen at k5
      exact spent_os _ _ _ g _ co q _ cz w ⟨cg, h3, by omega⟩ h4 (by omega) ⟨cq, k3, k6⟩ k4 (by omega) (fun e => hap g rfl (by rw [e]; rfl))
end Go.Proofs.YtnpbajhlhkmljaaDoor

/-
  Results in memory once more: their shape, and what keeps them; a result written full.
-/
namespace Go.Proofs.YtnpbajhlhkmljaaDoor
open Go.RowKit

/-- A result as an aggregate of five cells; its lists are slices. -/
theorem ResOf.shape {w : World} {base : Nat} {v : Value} {s : St} (h : ResOf w base v s) : ∃ ao co az cz, v = .agg #[.int .i64 s.kind, .int .i64 s.val, .int .i64 (s.steps : Int), .slice ao s.outs.length co, .slice az s.stops.length cz] := by
  obtain ⟨vo, vs, rfl, o1, s1⟩ := h
  obtain ⟨ao, co, rfl, _, _⟩ := own_heldI o1
  obtain ⟨az, cz, rfl, _, _⟩ := own_heldS s1
  exact ⟨_, _, _, _, rfl⟩
theorem ResOf.below {w w' : World} {base : Nat} {v : Value} {s : St} (h : ResOf w base v s) (hb : Below w.heap.size w w') : ResOf w' base v s := by
  obtain ⟨vo, vs, rfl, o1, s1⟩ := h
  exact ⟨vo, vs, rfl, own_keep o1 (Keep.of_below hb (fun _ => False)) (fun _ _ h => h), own_keep s1 (Keep.of_below hb (fun _ => False)) (fun _ _ h => h)⟩
/-- What was written full lies between two sizes of the memory; what lies elsewhere stays. -/
theorem ResOf.keep {S : Nat → Prop} {w w' : World} {base : Nat} {v : Value} {s : St} (h : ResOf w base v s) (hk : Keep S w w') (hS : ∀ k, base ≤ k → ¬ S k) : ResOf w' base v s := by
  obtain ⟨vo, vs, rfl, o1, s1⟩ := h
  exact ⟨vo, vs, rfl, own_keep o1 hk (fun g hg => hS g (own_in o1 g hg).1), own_keep s1 hk (fun g hg => hS g (own_in s1 g hg).1)⟩
theorem spent_res {w0 : World} {s : St} {base : Nat} {v : Value} (h : ResOf w0 base v s) (w : World) (hb : Below w0.heap.size w0 w) :
    Calls Tryd.prog 15 #[v] w fun e w' => e = .returned (.tuple #[]) ∧ Keep (fun k => base ≤ k ∧ k < w0.heap.size) w w' := by
  obtain ⟨vo, vs, rfl, o1, s1⟩ := h
  have o2 := own_keep o1 (Keep.of_below hb (fun _ => False)) (fun _ _ h => h)
  have s2 := own_keep s1 (Keep.of_below hb (fun _ => False)) (fun _ _ h => h)
  refine (spent_any s base vo vs w o2 s2).mono ?_
  rintro e w' ⟨he, hk⟩
  exact ⟨he, hk.mono (fun i _ h => h.elim (fun h => own_in o1 i h.symm) (fun h => own_in s1 i h.symm))⟩
theorem five {w : World} {g : Nat} {a b c d e : Value} (h : w.heap[g]? = some (.cells #[a, b, c, d, e] 37 (0, 0))) : w.cell? ⟨g, 0, none⟩ = some a ∧ w.cell? ⟨g, 1, none⟩ = some b ∧ w.cell? ⟨g, 2, none⟩ = some c ∧ w.cell? ⟨g, 3, none⟩ = some d ∧ w.cell? ⟨g, 4, none⟩ = some e :=
  ⟨(cell_of_row w g 0 _ 37 (0, 0) h).trans rfl, (cell_of_row w g 1 _ 37 (0, 0) h).trans rfl, (cell_of_row w g 2 _ 37 (0, 0) h).trans rfl, (cell_of_row w g 3 _ 37 (0, 0) h).trans rfl, (cell_of_row w g 4 _ 37 (0, 0) h).trans rfl⟩
end Go.Proofs.YtnpbajhlhkmljaaDoor
