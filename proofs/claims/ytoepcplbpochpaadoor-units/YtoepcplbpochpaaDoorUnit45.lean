/-
  Code and args of the caller's own, with marks in their spare room, and whether they are as they were (lodgelaw.lent, roomy, back, whole).
-/
import Derived.Test.YtoepcplbpochpaaDoorUnit33
import Derived.Test.YtoepcplbpochpaaDoorUnit32
import Derived.Test.YtoepcplbpochpaaDoorUnit44
import Derived.OwnWalk

namespace Go.Proofs.YtoepcplbpochpaaDoor
open Go.RowKit

theorem insCells_one (l : List In4) : ∀ v ∈ insCells l, v.oneCell' = true := by
  intro v hv
  unfold insCells at hv
  obtain ⟨x, _, hx⟩ := List.mem_flatMap.1 hv
  simp only [In4.cells, List.mem_cons, List.not_mem_nil, or_false] at hx
  rcases hx with rfl | rfl | rfl | rfl <;> rfl
theorem intCells_one (l : List Int) : ∀ v ∈ intCells l, v.oneCell' = true := by
  intro v hv; unfold intCells at hv; obtain ⟨x, _, rfl⟩ := List.mem_map.1 hv; rfl
theorem held_code {w : World} {ao : Option Addr} {L : List In4} (h : HeldIns w ao L) : 0 < L.length → ∃ ad, ao = some ad ∧ ∀ j v, (insCells L)[j]? = some v → w.cell? (ad.add j) = some v := fun h0 => by
  rcases h with h | ⟨b, off, e, _, hc⟩
  · subst h; exact absurd h0 (by simp)
  · refine ⟨_, e, fun j v hv => ?_⟩
    have hj : j < L.length * 4 := by
      rcases Nat.lt_or_ge j (L.length * 4) with h | h
      · exact h
      · rw [List.getElem?_eq_none (by rw [insCells_len]; exact h)] at hv; cases hv
    have hadd : (⟨b, off, none⟩ : Addr).add j = ⟨b, off + j, none⟩ := by unfold Addr.add; split <;> simp_all
    have key := insCells_at L (j / 4) (j % 4) (by omega) (by omega)
    rw [show j / 4 * 4 + j % 4 = j by omega, hv] at key
    obtain ⟨k0, k1, k2, k3⟩ := hc (j / 4) (by omega)
    rw [hadd, show off + j = off + j / 4 * 4 + j % 4 by omega]
    have h5 : j % 4 < 4 := by omega
    match hm : j % 4, h5 with
    | 0, _ => rw [hm] at key; rw [Nat.add_zero, k0]; exact key.symm
    | 1, _ => rw [hm] at key; rw [k1]; exact key.symm
    | 2, _ => rw [hm] at key; rw [k2]; exact key.symm
    | 3, _ => rw [hm] at key; rw [k3]; exact key.symm
theorem row_code {w : World} {g : Nat} {L : List In4} {xs : List Value} {t : TypeId} (h : w.heap[g]? = some (.cells (insCells L ++ xs).toArray t (0, 0))) : LieI w g 0 L := fun i hi => by
  have key : ∀ j, j < 4 → w.cell? ⟨g, i * 4 + j, none⟩ = (inAt L i).cells[j]? := fun j hj => by
    rw [cell_of_row w g _ _ t (0, 0) h, ← insCells_at L i j hi hj]
    simp only [List.getElem?_toArray]
    rw [List.getElem?_append_left (by rw [insCells_len]; omega)]
  rw [Nat.zero_add]
  exact ⟨key 0 (by decide), key 1 (by decide), key 2 (by decide), key 3 (by decide)⟩
theorem LieI.set {w : World} {g o : Nat} {L : List In4} {v : Value} (h : LieI w g 0 L) (ho : L.length * 4 ≤ o) : LieI (w.setCell ⟨g, o, none⟩ v) g 0 L := fun i hi => by
  obtain ⟨h0, h1, h2, h3⟩ := h i hi
  exact ⟨cell_set h0 (by omega), cell_set h1 (by omega), cell_set h2 (by omega), cell_set h3 (by omega)⟩
theorem some_cell {w : World} {g o : Nat} {cs : Array Value} {t : TypeId} (h : w.heap[g]? = some (.cells cs t (0, 0))) (ho : o < cs.size) : ∃ u, w.cell? ⟨g, o, none⟩ = some u :=
  ⟨cs[o], by rw [cell_of_row w g o cs t (0, 0) h]; exact Array.getElem?_eq_getElem _⟩
theorem Tryd.i42 : (Tryd.prog.info? 77).map (fun i => (i.zero, i.size, i.bytes)) = some (some (.agg #[.int .i64 0, .int .i64 0, .int .i64 0, .int .i64 0]), 4, 32) := by kernel_rfl
theorem Tryd.i3' : (Tryd.prog.info? 3).map (fun i => (i.zero, i.size, i.bytes)) = some (some (.int .i64 0), 1, 8) := by kernel_rfl
theorem Tryd.size77 : (Tryd.prog.info? 77).map (·.size) = some 4 := by kernel_rfl
theorem Tryd.sizeI : (Tryd.prog.info? 3).map (·.size) = some 1 := by kernel_rfl

/-- Code that was lent: where it lies, and its marks. -/
structure Lent (w : World) (g : Nat) (L : List In4) : Prop where
  lie : LieI w g 0 L
  m0 : w.cell? ⟨g, L.length * 4, none⟩ = some (.int .i64 (-77))
  m1 : w.cell? ⟨g, (L.length + 1) * 4, none⟩ = some (.int .i64 (-77))
  lt : g < w.heap.size
theorem Lent.below {w w' : World} {g B : Nat} {L : List In4} (h : Lent w g L) (hb : Below B w w') (hB : g < B) : Lent w' g L :=
  ⟨h.lie.below hb hB, (hb.cell (p := ⟨g, L.length * 4, none⟩) hB).trans h.m0, (hb.cell (p := ⟨g, (L.length + 1) * 4, none⟩) hB).trans h.m1, Nat.lt_of_lt_of_le h.lt hb.size⟩
structure Roomy (w : World) (g : Nat) (xs : List Int) : Prop where
  lie : ∀ i, i < xs.length → w.cell? ⟨g, i, none⟩ = some (.int .i64 (nth xs i))
  m0 : w.cell? ⟨g, xs.length, none⟩ = some (.int .i64 (-77))
  m1 : w.cell? ⟨g, xs.length + 1, none⟩ = some (.int .i64 (-77))
  lt : g < w.heap.size
theorem Roomy.below {w w' : World} {g B : Nat} {xs : List Int} (h : Roomy w g xs) (hb : Below B w w') (hB : g < B) : Roomy w' g xs :=
  ⟨fun i hi => (hb.cell (p := ⟨g, i, none⟩) hB).trans (h.lie i hi), (hb.cell (p := ⟨g, xs.length, none⟩) hB).trans h.m0, (hb.cell (p := ⟨g, xs.length + 1, none⟩) hB).trans h.m1, Nat.lt_of_lt_of_le h.lt hb.size⟩

set_option maxRecDepth 100000 in
set_option maxHeartbeats 2000000 in
theorem lent_any (L : List In4) (ao : Option Addr) (cap : Nat) (w : World) (hH : HeldIns w ao L) (hlen : L.length * 32 ≤ 140737488351232) :
    Calls Tryd.prog 15 #[.slice ao L.length cap] w fun e w' => e = .returned (.slice (some ⟨w.heap.size, 0, none⟩) L.length (L.length + 2)) ∧ Lent w' w.heap.size L ∧ Below w.heap.size w w' := by
  obtain ⟨i0, hi, hz0, hz1, hz2⟩ := info_parts Tryd.i42
  have hmk : (Instr.makeSlice 22 (.int .i64 ((L.length : Int) + 2)) (.int .i64 ((L.length : Int) + 2))).run Tryd.prog w = .ok (.slice (some ⟨w.heap.size, 0, none⟩) (L.length + 2) (L.length + 2)) (w.alloc (.cells (madeCells #[.int .i64 0, .int .i64 0, .int .i64 0, .int .i64 0] ((L.length + 2) * 4)) 77)) := by
    have := run_make (P := Tryd.prog) w 22 77 i0 _ Tryd.underlying22 hi hz0 .i64 .i64 ((L.length : Int) + 2) ((L.length : Int) + 2) (by omega) (by omega) (by rw [hz2]; omega) (by omega)
    rw [hz1, show ((L.length : Int) + 2).toNat = L.length + 2 by omega] at this
    exact this
  obtain ⟨w1, hw1⟩ : ∃ w1, w1 = w.alloc (.cells (madeCells #[.int .i64 0, .int .i64 0, .int .i64 0, .int .i64 0] ((L.length + 2) * 4)) 77) := ⟨_, rfl⟩
  rw [← hw1] at hmk
  have hg1 : w1.heap[w.heap.size]? = some (.cells (madeCells #[.int .i64 0, .int .i64 0, .int .i64 0, .int .i64 0] ((L.length + 2) * 4)) 77 (0, 0)) := by rw [hw1]; exact heap_alloc_new _ _
  have hb1 : Below w.heap.size w w1 := by rw [hw1]; exact (Below.refl _ _).alloc (Nat.le_refl _) _
  have hcs : (madeCells #[Value.int .i64 0, .int .i64 0, .int .i64 0, .int .i64 0] ((L.length + 2) * 4)).size = (L.length + 2) * 4 := by simp [madeCells]
  obtain ⟨w2, hcp, hg2, hk2⟩ := copy_keep (P := Tryd.prog) 22 22 77 4 Tryd.underlying22 Tryd.size77 ao w.heap.size (L.length + 2) (L.length + 2) L.length cap (by omega) _ 77 hg1 (insCells L) (insCells_len L) (held_code (hH.below hb1)) (by rw [insCells_len, hcs]; omega) (insCells_one L)
  have hsz2 : (insCells L ++ (madeCells #[Value.int .i64 0, .int .i64 0, .int .i64 0, .int .i64 0] ((L.length + 2) * 4)).toList.drop (insCells L).length).toArray.size = (L.length + 2) * 4 := by
    simp only [List.size_toArray, List.length_append, List.length_drop, Array.length_toList, insCells_len, hcs]; omega
  obtain ⟨u0, hu0⟩ := some_cell (o := L.length * 4) hg2 (by rw [hsz2]; omega)
  obtain ⟨u1, hu1⟩ := some_cell (o := (L.length + 1) * 4) hg2 (by rw [hsz2]; omega)
  have hf2 : ∀ o, w2.frozen? ⟨w.heap.size, o, none⟩ = false := fun o => by simp [World.frozen?, hg2]
  have HL2 := hide (row_code hg2)
  have HB2 : Hid (Below w.heap.size w w2) := hb1.trans (hk2.below hb1.size (fun k hk e => by omega))
  have HLT : Hid (w.heap.size < w2.heap.size) := (Array.getElem?_eq_some_iff.1 hg2).1
  have hn1 : L.length * 4 ≠ (L.length + 1) * 4 := by omega
  have hn2 : (L.length + 1) * 4 ≠ L.length * 4 := by omega
  clear hg1 hb1 hcs hg2 hk2 hsz2 hw1 hi hz0 hz1 hz2
  go_enter Tryd.func15, Tryd.ntmps15
  go_wp2_with fail
  go_ret
  refine ⟨rfl, ⟨((unhide HL2).set (Nat.le_refl _)).set (by omega), cell_set (cell_put hu0) hn1, cell_put (cell_set hu1 hn2), by simp; exact unhide HLT⟩, ((unhide HB2).setCell (p := ⟨w.heap.size, L.length * 4, none⟩) (Nat.le_refl _) _).setCell (p := ⟨w.heap.size, (L.length + 1) * 4, none⟩) (Nat.le_refl _) _⟩

theorem row_ints {w : World} {g : Nat} {xs : List Int} {ys : List Value} {t : TypeId} (h : w.heap[g]? = some (.cells (intCells xs ++ ys).toArray t (0, 0))) : ∀ i, i < xs.length → w.cell? ⟨g, i, none⟩ = some (.int .i64 (nth xs i)) := fun i hi => by
  rw [cell_of_row w g _ _ t (0, 0) h]
  simp only [List.getElem?_toArray]
  rw [List.getElem?_append_left (by rw [intCells_len]; exact hi)]
  unfold intCells nth
  rw [List.getElem?_map, List.getElem?_eq_getElem hi, List.getD_eq_getElem?_getD, List.getElem?_eq_getElem hi]
  rfl
theorem held_nums {w : World} {ao : Option Addr} {xs : List Int} (h : HeldI w ao xs) : 0 < xs.length → ∃ ad, ao = some ad ∧ ∀ j v, (intCells xs)[j]? = some v → w.cell? (ad.add j) = some v := fun h0 => by
  rcases h with h | ⟨b, off, e, _, hc⟩
  · subst h; exact absurd h0 (by simp)
  · refine ⟨_, e, fun j v hv => ?_⟩
    have hj : j < xs.length := by
      rcases Nat.lt_or_ge j xs.length with h | h
      · exact h
      · rw [List.getElem?_eq_none (by rw [intCells_len]; exact h)] at hv; cases hv
    have hadd : (⟨b, off, none⟩ : Addr).add j = ⟨b, off + j, none⟩ := by unfold Addr.add; split <;> simp_all
    rw [hadd, hc j hj]
    unfold intCells at hv
    rw [List.getElem?_map, List.getElem?_eq_getElem hj] at hv
    unfold nth
    rw [List.getD_eq_getElem?_getD, List.getElem?_eq_getElem hj]
    exact hv

set_option maxRecDepth 100000 in
set_option maxHeartbeats 2000000 in
theorem roomy_any (xs : List Int) (ao : Option Addr) (cap : Nat) (w : World) (hH : HeldI w ao xs) (hlen : xs.length * 8 ≤ 140737488351232) :
    Calls Tryd.prog 16 #[.slice ao xs.length cap] w fun e w' => e = .returned (.slice (some ⟨w.heap.size, 0, none⟩) xs.length (xs.length + 2)) ∧ Roomy w' w.heap.size xs ∧ Below w.heap.size w w' := by
  obtain ⟨i0, hi, hz0, hz1, hz2⟩ := info_parts Tryd.i3'
  have hmk : (Instr.makeSlice 32 (.int .i64 ((xs.length : Int) + 2)) (.int .i64 ((xs.length : Int) + 2))).run Tryd.prog w = .ok (.slice (some ⟨w.heap.size, 0, none⟩) (xs.length + 2) (xs.length + 2)) (w.alloc (.cells (madeCells #[.int .i64 0] ((xs.length + 2) * 1)) 3)) := by
    have := run_make (P := Tryd.prog) w 32 3 i0 _ Tryd.underlying32 hi hz0 .i64 .i64 ((xs.length : Int) + 2) ((xs.length : Int) + 2) (by omega) (by omega) (by rw [hz2]; omega) (by omega)
    rw [hz1, show ((xs.length : Int) + 2).toNat = xs.length + 2 by omega] at this
    exact this
  obtain ⟨w1, hw1⟩ : ∃ w1, w1 = w.alloc (.cells (madeCells #[.int .i64 0] ((xs.length + 2) * 1)) 3) := ⟨_, rfl⟩
  rw [← hw1] at hmk
  have hg1 : w1.heap[w.heap.size]? = some (.cells (madeCells #[.int .i64 0] ((xs.length + 2) * 1)) 3 (0, 0)) := by rw [hw1]; exact heap_alloc_new _ _
  have hb1 : Below w.heap.size w w1 := by rw [hw1]; exact (Below.refl _ _).alloc (Nat.le_refl _) _
  have hcs : (madeCells #[Value.int .i64 0] ((xs.length + 2) * 1)).size = xs.length + 2 := by simp [madeCells]
  obtain ⟨w2, hcp, hg2, hk2⟩ := copy_keep (P := Tryd.prog) 32 32 3 1 Tryd.underlying32 Tryd.sizeI ao w.heap.size (xs.length + 2) (xs.length + 2) xs.length cap (by omega) _ 3 hg1 (intCells xs) (by rw [intCells_len, Nat.mul_one]) (held_nums (hH.below hb1)) (by rw [intCells_len, hcs]; omega) (intCells_one xs)
  have hsz2 : (intCells xs ++ (madeCells #[Value.int .i64 0] ((xs.length + 2) * 1)).toList.drop (intCells xs).length).toArray.size = xs.length + 2 := by
    simp only [List.size_toArray, List.length_append, List.length_drop, Array.length_toList, intCells_len, hcs]; omega
  obtain ⟨u0, hu0⟩ := some_cell (o := xs.length) hg2 (by rw [hsz2]; omega)
  obtain ⟨u1, hu1⟩ := some_cell (o := xs.length + 1) hg2 (by rw [hsz2]; omega)
  have hf2 : ∀ o, w2.frozen? ⟨w.heap.size, o, none⟩ = false := fun o => by simp [World.frozen?, hg2]
  have HL2 := hide (row_ints hg2)
  have HB2 : Hid (Below w.heap.size w w2) := hb1.trans (hk2.below hb1.size (fun k hk e => by omega))
  have HLT : Hid (w.heap.size < w2.heap.size) := (Array.getElem?_eq_some_iff.1 hg2).1
  have hn1 : xs.length ≠ xs.length + 1 := by omega
  have hn2 : xs.length + 1 ≠ xs.length := by omega
  clear hg1 hb1 hcs hg2 hk2 hsz2 hw1 hi hz0 hz1 hz2
  go_enter Tryd.func16, Tryd.ntmps16
  go_wp2_with fail
  go_ret
  refine ⟨rfl, ⟨fun i hi => cell_set (cell_set (unhide HL2 i hi) (by omega)) (by omega), cell_set (cell_put hu0) hn1, cell_put (cell_set hu1 hn2), by simp; exact unhide HLT⟩, ((unhide HB2).setCell (p := ⟨w.heap.size, xs.length, none⟩) (Nat.le_refl _) _).setCell (p := ⟨w.heap.size, xs.length + 1, none⟩) (Nat.le_refl _) _⟩

set_option maxRecDepth 100000 in
set_option maxHeartbeats 2000000 in
theorem back_any (L : List In4) (g : Nat) (ao : Option Addr) (cap : Nat) (w : World) (hH : HeldIns w ao L) (hL : Lent w g L) (hlen : L.length * 32 ≤ 140737488351232) :
    Calls Tryd.prog 21 #[.slice (some ⟨g, 0, none⟩) L.length (L.length + 2), .slice ao L.length cap] w fun e w' => e = .returned (.bool true) ∧ Below w.heap.size w w' := by
  have KS := hide (fun w c1 (hA : HeldIns w (some ⟨g, 0, none⟩) L) (hB : HeldIns w ao L) => sameCode_any L (some ⟨g, 0, none⟩) ao c1 cap w hA hB (by omega))
  have HH := hide hH
  have HL := hide hL
  clear hH hL
  go_enter Tryd.func21, Tryd.ntmps21
  go_wp2_with fail
  refine (unhide KS w _ (.inr ⟨g, 0, rfl, (unhide HL).lt, (unhide HL).lie⟩) (unhide HH)).mono ?_
  rintro e w2 ⟨rfl, hb2⟩
  have HL2 := (unhide HL).below hb2 (unhide HL).lt
  have m0 := HL2.m0
  have m1 := HL2.m1
  have HB2 := hide hb2
  clear HL2 hb2
  go_wp2_with fail
  go_ret
  exact ⟨rfl, unhide HB2⟩

set_option maxRecDepth 100000 in
set_option maxHeartbeats 2000000 in
theorem whole_any (xs : List Int) (g : Nat) (ao : Option Addr) (cap : Nat) (w : World) (hH : HeldI w ao xs) (hL : Roomy w g xs) (hlen : xs.length * 8 ≤ 140737488351232) :
    Calls Tryd.prog 22 #[.slice (some ⟨g, 0, none⟩) xs.length (xs.length + 2), .slice ao xs.length cap] w fun e w' => e = .returned (.bool true) ∧ Below w.heap.size w w' := by
  have KS := hide (fun w c1 (hA : HeldI w (some ⟨g, 0, none⟩) xs) (hB : HeldI w ao xs) => sameInts_any xs (some ⟨g, 0, none⟩) ao c1 cap w hA hB (by omega))
  have HH := hide hH
  have HL := hide hL
  clear hH hL
  go_enter Tryd.func22, Tryd.ntmps22
  go_wp2_with fail
  refine (unhide KS w _ (.inr ⟨g, 0, rfl, (unhide HL).lt, fun i hi => by rw [Nat.zero_add]; exact (unhide HL).lie i hi⟩) (unhide HH)).mono ?_
  rintro e w2 ⟨rfl, hb2⟩
  have HL2 := (unhide HL).below hb2 (unhide HL).lt
  have m0 := HL2.m0
  have m1 := HL2.m1
  have HB2 := hide hb2
  clear HL2 hb2
  go_wp2_with fail
  go_ret
  exact ⟨rfl, unhide HB2⟩
end Go.Proofs.YtoepcplbpochpaaDoor
