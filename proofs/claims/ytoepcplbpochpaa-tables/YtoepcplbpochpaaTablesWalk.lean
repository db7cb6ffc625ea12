/-
  The walk of lodgelaw.Tables: its first half (Encode), up to the first Decode.
-/
import Derived.Test.YtoepcplbpochpaaRefDecodeWalk
import Derived.Test.YtoepcplbpochpaaSame
import Derived.Test.YtoepcplbpochpaaCopy
namespace Go.Proofs.Ytoepcplbpochpaa
open Go.RowKit

theorem encV_shape (R : List Rg) : ∃ (t : ByteArray) (z : Int), encV R = .tuple #[.string t, .int .i64 z] := by
  unfold encV; split <;> exact ⟨_, _, rfl⟩

theorem decode_yes {s : ByteArray} {R : List Rg} (hs : s.size ≤ maxLen) (ht : Tab s R) (w : World) :
    Calls Try.prog 14 #[.string s] w fun e w' => ∃ v, e = .returned (.tuple #[v, .int .i64 0]) ∧ w'.ownsRow w.heap.size 30 5 v R.length (cellsOf R) ∧ Below w.heap.size w w' :=
  (decode_any s w hs).mono fun e w' h => by
    rcases h with ⟨hb, ⟨R', v, ht', he, ho⟩ | ⟨hn, _⟩⟩
    · obtain rfl := tab_uniq ht ht'; exact ⟨v, he, ho, hb⟩
    · exact absurd ht (hn R)
theorem refDecode_yes {s : ByteArray} {R : List Rg} (hs : s.size ≤ maxLen) (ht : Tab s R) (w : World) :
    Calls Try.prog 15 #[.string s] w fun e w' => ∃ v, e = .returned (.tuple #[v, .int .i64 0]) ∧ w'.ownsRow w.heap.size 30 5 v R.length (cellsOf R) ∧ Below w.heap.size w w' :=
  (refDecode_any s w hs).mono fun e w' h => by
    rcases h with ⟨hb, ⟨R', v, ht', he, ho⟩ | ⟨hn, _⟩⟩
    · obtain rfl := tab_uniq ht ht'; exact ⟨v, he, ho, hb⟩
    · exact absurd ht (hn R)
theorem decode_no {s : ByteArray} (hs : s.size ≤ maxLen) (ht : ∀ R, ¬ Tab s R) (w : World) :
    Calls Try.prog 14 #[.string s] w fun e w' => e = .returned (.tuple #[.slice none 0 0, .int .i64 14]) ∧ Below w.heap.size w w' :=
  (decode_any s w hs).mono fun e w' h => by
    rcases h with ⟨hb, ⟨R', v, ht', he, ho⟩ | ⟨hn, he⟩⟩
    · exact absurd ht' (ht R')
    · exact ⟨he, hb⟩
theorem refDecode_no {s : ByteArray} (hs : s.size ≤ maxLen) (ht : ∀ R, ¬ Tab s R) (w : World) :
    Calls Try.prog 15 #[.string s] w fun e w' => e = .returned (.tuple #[.slice none 0 0, .int .i64 14]) ∧ Below w.heap.size w w' :=
  (refDecode_any s w hs).mono fun e w' h => by
    rcases h with ⟨hb, ⟨R', v, ht', he, ho⟩ | ⟨hn, he⟩⟩
    · exact absurd ht' (ht R')
    · exact ⟨he, hb⟩

theorem cells_one (R : List Rg) : ∀ v ∈ cellsOf R, v.oneCell' = true := by
  intro v hv
  unfold cellsOf at hv
  obtain ⟨r, _, hv⟩ := List.mem_flatMap.1 hv
  unfold Rg.cells at hv
  simp only [List.mem_cons, List.not_mem_nil, or_false] at hv
  rcases hv with rfl | rfl | rfl | rfl | rfl <;> rfl

/-- A held slice's cells, in a row. -/
theorem held_cells {w : World} {ao : Option Addr} {R : List Rg} (h : Held w ao R) : 0 < R.length → ∃ ad, ao = some ad ∧ ∀ j v, (cellsOf R)[j]? = some v → w.cell? (ad.add j) = some v := by
  intro hp
  rcases h with rfl | ⟨b, off, rfl, hb, hl⟩
  · simp at hp
  · refine ⟨_, rfl, fun j v hj => ?_⟩
    have hlt : j < (cellsOf R).length := (List.getElem?_eq_some_iff.1 hj).1
    rw [cellsOf_len] at hlt
    have hadd : (⟨b, off, none⟩ : Addr).add j = ⟨b, off + j, none⟩ := by unfold Addr.add; split <;> simp_all
    have hi : j / 5 < R.length := by omega
    have key := cellsOf_at R (j / 5) hi (j % 5) (by omega)
    rw [show j / 5 * 5 + j % 5 = j by omega, hj] at key
    obtain ⟨k0, k1, k2, k3, k4⟩ := hl (j / 5) hi
    rw [hadd, show off + j = off + j / 5 * 5 + j % 5 by omega]
    have h5 : j % 5 < 5 := by omega
    match hm : j % 5, h5 with
    | 0, _ => rw [hm] at key; rw [Nat.add_zero, k0]; exact key.symm
    | 1, _ => rw [hm] at key; rw [k1]; exact key.symm
    | 2, _ => rw [hm] at key; rw [k2]; exact key.symm
    | 3, _ => rw [hm] at key; rw [k3]; exact key.symm
    | 4, _ => rw [hm] at key; rw [k4]; exact key.symm

/-- A row that begins with the cells of R holds R. -/
theorem row_held {w : World} {g : Nat} {R : List Rg} {xs : List Value} {t : TypeId} (h : w.heap[g]? = some (.cells (cellsOf R ++ xs).toArray t (0, 0))) : Held w (some ⟨g, 0, none⟩) R := by
  refine .inr ⟨g, 0, rfl, (Array.getElem?_eq_some_iff.1 h).1, fun i hi => ?_⟩
  have key : ∀ j, j < 5 → w.cell? ⟨g, i * 5 + j, none⟩ = (rg R i).cells[j]? := fun j hj => by
    rw [cell_of_row w g _ _ t (0, 0) h, ← cellsOf_at R i hi j hj]
    simp only [List.getElem?_toArray]
    rw [List.getElem?_append_left (by rw [cellsOf_len]; omega)]
  rw [Nat.zero_add]
  exact ⟨key 0 (by decide), key 1 (by decide), key 2 (by decide), key 3 (by decide), key 4 (by decide)⟩

theorem same_nil (w : World) : Calls Try.prog 13 #[.slice none 0 0, .slice none 0 0] w fun e w' => e = .returned (.bool true) ∧ Below w.heap.size w w' :=
  same_any [] none none 0 0 w (.inl rfl) (.inl rfl) (by decide)

theorem set_row (R : List Rg) (y u : Value) (ys : List Value) : (cellsOf R ++ y :: ys).toArray.setIfInBounds (R.length * 5) u = (cellsOf R ++ u :: ys).toArray := by
  apply Array.toList_inj.1
  rw [Array.toList_setIfInBounds]
  show (cellsOf R ++ y :: ys).set (R.length * 5) u = cellsOf R ++ u :: ys
  rw [List.set_append_right _ _ (by rw [cellsOf_len]; omega), cellsOf_len, Nat.sub_self]; rfl

set_option maxRecDepth 100000 in
set_option maxHeartbeats 2000000 in
theorem tables_no (R : List Rg) (ao : Option Addr) (cap : Nat) (s : ByteArray) (w : World) (hH : Held w ao R) (hlen : R.length * 40 ≤ 140737488351232) (hs : s.size ≤ maxLen) (hT : ∀ R, ¬ Tab s R) :
    Calls Try.prog 4 #[.slice ao R.length cap, .string s] w fun e w' => e = .returned (.bool true) ∧ Below w.heap.size w w' := by
  obtain ⟨i0, hi, hz0, hz1, hz2⟩ := info_parts Try.info30
  have hsz5 : (Try.prog.info? 30).map (·.size) = some 5 := by rw [hi]; simp [hz1]
  obtain ⟨t, z, hv⟩ := encV_shape R
  have E1 := hide (fun w ao cap (h : Held w ao R) => encode_any R ao cap w h (by omega))
  have E2 := hide (fun w ao cap (h : Held w ao R) => refEncode_any R ao cap w h (by omega))
  rw [hv] at E1 E2
  have D1 := hide (fun w => decode_no hs hT w)
  have D2 := hide (fun w => refDecode_no hs hT w)
  have S1 := hide (fun w ao bo c1 c2 (h : Held w ao R) (h' : Held w bo R) => same_any R ao bo c1 c2 w h h' (by omega))
  have S2 := hide (fun w => same_nil w)
  have HZ := hide hsz5
  clear hv hT hsz5 hs
  go_enter Try.func4, Try.ntmps4
  go_wp2_with (at_make; refine wpList_make_full _ rfl _ _ 28 rfl w.heap.size 30 i0 _ 5 Try.underlying28 hi hz0 hz1 .i64 .i64 _ _ (R.length + 1) rfl rfl ?a1 ?a2 ?a3 ?a4 ?a5 ?_)
  case a1 => omega
  case a2 => omega
  case a3 => rw [hz2]; omega
  case a4 => unfold maxLen; omega
  case a5 => exact Nat.le_refl _
  intro w1 hown1 hgrow1
  have hb1 : Below w.heap.size w w1 := (Below.refl _ _).grown hgrow1 (Nat.le_refl _) (fun k h => by cases h)
  obtain ⟨cur, hg1, hcs⟩ : ∃ cur, w1.heap[w.heap.size]? = some (.cells cur 30 (0, 0)) ∧ cur.size = (R.length + 1) * 5 := by
    rcases hown1.2 with ⟨h, _⟩ | ⟨g, cap', cur, h, _, h3, _, _, h6, _⟩
    · cases h
    · simp only [Value.slice.injEq, Option.some.injEq, Addr.mk.injEq, and_true, true_and] at h
      obtain ⟨rfl, rfl⟩ := h
      exact ⟨cur, h3, h6⟩
  have hfit : (cellsOf R).length ≤ cur.size := by rw [cellsOf_len]; omega
  have HG1 := hide hg1
  have hH1 := hide (hH.below hb1)
  clear hown1 hgrow1 hg1
  obtain ⟨w2, hcp, hg2, hb2⟩ := copy_rows (P := Try.prog) 28 28 30 5 Try.underlying28 (unhide HZ) ao w.heap.size (R.length + 1) (R.length + 1) R.length cap (Nat.le_succ _) cur 30 (unhide HG1) (cellsOf R) (cellsOf_len R) (held_cells (unhide hH1)) hfit (cells_one R) w.heap.size w hb1 (Nat.le_refl _)
  have HG2 := hide hg2
  clear hg2
  obtain ⟨y, ys, hdrop⟩ : ∃ y ys, cur.toList.drop (cellsOf R).length = y :: ys := by
    have hl : (cur.toList.drop (cellsOf R).length).length = 5 := by rw [List.length_drop, cellsOf_len, Array.length_toList, hcs]; omega
    cases h : cur.toList.drop (cellsOf R).length with
    | nil => rw [h] at hl; simp at hl
    | cons y ys => exact ⟨y, ys, rfl⟩
  rw [hdrop] at HG2
  have hcell2 : w2.cell? ⟨w.heap.size, R.length * 5, none⟩ = some y := by
    rw [cell_of_row w2 _ _ _ 30 (0, 0) (unhide HG2)]
    simp only [List.getElem?_toArray]
    rw [List.getElem?_append_right (by rw [cellsOf_len]; omega), cellsOf_len, Nat.sub_self]; rfl
  have hfro2 : w2.frozen? ⟨w.heap.size, R.length * 5, none⟩ = false := by simp [World.frozen?, unhide HG2]
  clear hdrop hcs HG1 hH1 hfit
  go_wp2_with fail
  obtain ⟨w3, hw3, hg3, hb3⟩ : ∃ w3, w3 = w2.setCell ⟨w.heap.size, R.length * 5, none⟩ (.int .i64 (-77)) ∧ w3.heap[w.heap.size]? = some (.cells (cellsOf R ++ (.int .i64 (-77)) :: ys).toArray 30 (0, 0)) ∧ Below w.heap.size w w3 := by
    refine ⟨_, rfl, ?_, hb2.setCell (Nat.le_refl _) _⟩
    rw [heap_setCell_same w2 w.heap.size _ _ 30 _ (unhide HG2), set_row]
  rw [← hw3]
  have hcell3 : w3.cell? ⟨w.heap.size, R.length * 5, none⟩ = some (.int .i64 (-77)) := by
    rw [cell_of_row w3 _ _ _ 30 (0, 0) hg3]
    simp only [List.getElem?_toArray]
    rw [List.getElem?_append_right (by rw [cellsOf_len]; omega), cellsOf_len, Nat.sub_self]; rfl
  have hlt3 : w.heap.size < w3.heap.size := (Array.getElem?_eq_some_iff.1 hg3).1
  have K3 := hide (row_held hg3)
  have HC3 := hide hcell3
  clear hw3 hg3 hcell3 hcell2 hfro2 hcp HG2 hb1 hb2
  refine (unhide E1 _ _ _ (unhide K3)).mono ?_
  rintro e w4 ⟨rfl, hb4⟩
  go_wp2_with fail
  refine (unhide E2 _ _ _ (hH.below (hb3.trans (hb4.mono hb3.size)))).mono ?_
  rintro e w5 ⟨rfl, hb5⟩
  have hb35 := hb4.trans (hb5.mono hb4.size)
  have hb05 := hb3.trans (hb35.mono hb3.size)
  clear hb4 hb5
  go_wp2_with fail
  refine (unhide S1 _ _ _ _ _ ((unhide K3).below hb35) (hH.below hb05)).mono ?_
  rintro e w6 ⟨rfl, hb6⟩
  have hb36 := hb35.trans (hb6.mono hb35.size)
  have hb06 := hb3.trans (hb36.mono hb3.size)
  have hcell6 : w6.cell? ⟨w.heap.size, R.length * 5, none⟩ = some (.int .i64 (-77)) := (hb36.cell hlt3).trans (unhide HC3)
  clear hb35 hb05 hb6 hb36 HC3
  go_wp2_with fail
  refine (unhide D1 _).mono ?_
  rintro e w7 ⟨rfl, hb7⟩
  go_wp2_with fail
  refine (unhide D1 _).mono ?_
  rintro e w8 ⟨rfl, hb8⟩
  go_wp2_with fail
  refine (unhide D2 _).mono ?_
  rintro e w9 ⟨rfl, hb9⟩
  have hb09 := ((hb06.trans (hb7.mono hb06.size)).trans (hb8.mono (Nat.le_trans hb06.size hb7.size))).trans (hb9.mono (Nat.le_trans hb06.size (Nat.le_trans hb7.size hb8.size)))
  clear hb7 hb8 hb9 hcell6
  go_wp2_with fail
  refine (unhide S2 _).mono ?_
  rintro e w10 ⟨rfl, hb10⟩
  have hb010 := hb09.trans (hb10.mono hb09.size)
  go_wp2_with fail
  refine wp_loop_rounds 1 ?_; rw [rounds_succ]
  go_wp2_with fail
  refine (unhide D1 _).mono ?_
  rintro e w11 ⟨rfl, hb11⟩
  have hb011 := hb010.trans (hb11.mono hb010.size)
  go_wp2_with fail
  refine (unhide S2 _).mono ?_
  rintro e w12 ⟨rfl, hb12⟩
  have hb012 := hb011.trans (hb12.mono hb011.size)
  go_wp2_with fail
  refine (unhide S2 _).mono ?_
  rintro e w13 ⟨rfl, hb13⟩
  go_wp2
  go_ret
  exact ⟨rfl, hb012.trans (hb13.mono hb012.size)⟩
end Go.Proofs.Ytoepcplbpochpaa
