/-
  The walk of lodgelaw.Tables where the string holds a table.
-/
import Derived.Test.YtoepcplbpochpaaTablesWalk
namespace Go.Proofs.Ytoepcplbpochpaa
open Go.RowKit

/-- What is owned: nothing at all, or a row of its own. -/
theorem own_form {w : World} {base : Nat} {v : Value} {R : List Rg} (h : w.ownsRow base 30 5 v R.length (cellsOf R)) :
    (v = .slice none R.length 0 ∧ Held w none R ∧ R.length = 0) ∨ ∃ g cap cur, v = .slice (some ⟨g, 0, none⟩) R.length cap ∧ base ≤ g ∧ g < w.heap.size ∧ w.heap[g]? = some (.cells cur 30 (0, 0)) ∧ cur.size = cap * 5 ∧ cap ≤ maxLen ∧ R.length ≤ cap ∧ Held w (some ⟨g, 0, none⟩) R := by
  obtain ⟨ao, cap, hv, hh, _, _, _⟩ := own_held h
  rcases h.2 with ⟨rfl, h0⟩ | ⟨g, cap', cur, rfl, h2, h3, h4, h5, h6, h7⟩
  · simp only [Value.slice.injEq] at hv
    obtain ⟨rfl, _, _⟩ := hv
    exact .inl ⟨by rw [h0], hh, h0⟩
  · simp only [Value.slice.injEq, true_and] at hv
    obtain ⟨rfl, _⟩ := hv
    exact .inr ⟨g, cap', cur, rfl, h2, (Array.getElem?_eq_some_iff.1 h3).1, h3, h6, h5, h4, hh⟩

theorem held_setCell {w : World} {ao : Option Addr} {R : List Rg} {g j : Nat} {u : Value} (h : Held w ao R) (hne : ∀ b o sp, ao = some ⟨b, o, sp⟩ → b ≠ g) : Held (w.setCell ⟨g, j, none⟩ u) ao R := by
  rcases h with h | ⟨b, off, rfl, hb, hl⟩
  · exact .inl h
  · have hn := hne b off none rfl
    refine .inr ⟨b, off, rfl, by simpa using hb, fun i hi => ?_⟩
    obtain ⟨k0, k1, k2, k3, k4⟩ := hl i hi
    have key : ∀ o v, w.cell? ⟨b, o, none⟩ = some v → (w.setCell ⟨g, j, none⟩ u).cell? ⟨b, o, none⟩ = some v := fun o v hv => by
      rw [World.cell?_setCell_other _ _ _ _ (fun e => hn (by injection e with e1; exact e1.symm))]; exact hv
    exact ⟨key _ _ k0, key _ _ k1, key _ _ k2, key _ _ k3, key _ _ k4⟩

set_option maxRecDepth 100000 in
set_option maxHeartbeats 2000000 in
theorem tables_yes (R : List Rg) (ao : Option Addr) (cap : Nat) (s : ByteArray) (w : World) (hH : Held w ao R) (hlen : R.length * 40 ≤ 140737488351232) (hs : s.size ≤ maxLen) (T : List Rg) (hT : Tab s T) :
    Calls Try.prog 4 #[.slice ao R.length cap, .string s] w fun e w' => e = .returned (.bool true) ∧ Below w.heap.size w w' := by
  obtain ⟨i0, hi, hz0, hz1, hz2⟩ := info_parts Try.info30
  have hsz5 : (Try.prog.info? 30).map (·.size) = some 5 := by rw [hi]; simp [hz1]
  obtain ⟨t, z, hv⟩ := encV_shape R
  have E1 := hide (fun w ao cap (h : Held w ao R) => encode_any R ao cap w h (by omega))
  have E2 := hide (fun w ao cap (h : Held w ao R) => refEncode_any R ao cap w h (by omega))
  rw [hv] at E1 E2
  have D1 := hide (fun w => decode_yes hs hT w)
  have D2 := hide (fun w => refDecode_yes hs hT w)
  have hTl := isTab_len hT.1
  have S1 := hide (fun w ao bo c1 c2 (h : Held w ao R) (h' : Held w bo R) => same_any R ao bo c1 c2 w h h' (by omega))
  have S2 := hide (fun w ao bo c1 c2 (h : Held w ao T) (h' : Held w bo T) => same_any T ao bo c1 c2 w h h' (by omega))
  have HZ := hide hsz5
  clear hv hT hsz5 hs
  go_enter Try.func4, Try.ntmps4
  go_wp2_with (at_make; refine wpList_make_full _ rfl _ _ 28 rfl w.heap.size 30 i0 _ 5 Try.underlying28 hi hz0 hz1 .i64 .i64 _ _ (R.length + 1) rfl rfl ?a1 ?a2 ?a3 ?a4 ?a5 ?_)
  case a1 => omega
  case a2 => omega
  case a3 => rw [hz2]; omega
  case a4 => unfold maxLen; omega
  case a5 => exact Nat.le_refl _
  intro w1 hown1 hgrow1
  have hb1 : Below w.heap.size w w1 := (Below.refl _ _).grown hgrow1 (Nat.le_refl _) (fun k h => by cases h)
  obtain ⟨cur, hg1, hcs⟩ : ∃ cur, w1.heap[w.heap.size]? = some (.cells cur 30 (0, 0)) ∧ cur.size = (R.length + 1) * 5 := by
    rcases hown1.2 with ⟨h, _⟩ | ⟨g, cap', cur, h, _, h3, _, _, h6, _⟩
    · cases h
    · simp only [Value.slice.injEq, Option.some.injEq, Addr.mk.injEq, and_true, true_and] at h
      obtain ⟨rfl, rfl⟩ := h
      exact ⟨cur, h3, h6⟩
  have hfit : (cellsOf R).length ≤ cur.size := by rw [cellsOf_len]; omega
  have HG1 := hide hg1
  have hH1 := hide (hH.below hb1)
  clear hown1 hgrow1 hg1
  obtain ⟨w2, hcp, hg2, hb2⟩ := copy_rows (P := Try.prog) 28 28 30 5 Try.underlying28 (unhide HZ) ao w.heap.size (R.length + 1) (R.length + 1) R.length cap (Nat.le_succ _) cur 30 (unhide HG1) (cellsOf R) (cellsOf_len R) (held_cells (unhide hH1)) hfit (cells_one R) w.heap.size w hb1 (Nat.le_refl _)
  have HG2 := hide hg2
  clear hg2
  obtain ⟨y, ys, hdrop⟩ : ∃ y ys, cur.toList.drop (cellsOf R).length = y :: ys := by
    have hl : (cur.toList.drop (cellsOf R).length).length = 5 := by rw [List.length_drop, cellsOf_len, Array.length_toList, hcs]; omega
    cases h : cur.toList.drop (cellsOf R).length with
    | nil => rw [h] at hl; simp at hl
    | cons y ys => exact ⟨y, ys, rfl⟩
  rw [hdrop] at HG2
  have hcell2 : w2.cell? ⟨w.heap.size, R.length * 5, none⟩ = some y := by
    rw [cell_of_row w2 _ _ _ 30 (0, 0) (unhide HG2)]
    simp only [List.getElem?_toArray]
    rw [List.getElem?_append_right (by rw [cellsOf_len]; omega), cellsOf_len, Nat.sub_self]; rfl
  have hfro2 : w2.frozen? ⟨w.heap.size, R.length * 5, none⟩ = false := by simp [World.frozen?, unhide HG2]
  clear hdrop hcs HG1 hH1 hfit
  go_wp2_with fail
  obtain ⟨w3, hw3, hg3, hb3⟩ : ∃ w3, w3 = w2.setCell ⟨w.heap.size, R.length * 5, none⟩ (.int .i64 (-77)) ∧ w3.heap[w.heap.size]? = some (.cells (cellsOf R ++ (.int .i64 (-77)) :: ys).toArray 30 (0, 0)) ∧ Below w.heap.size w w3 := by
    refine ⟨_, rfl, ?_, hb2.setCell (Nat.le_refl _) _⟩
    rw [heap_setCell_same w2 w.heap.size _ _ 30 _ (unhide HG2), set_row]
  rw [← hw3]
  have hcell3 : w3.cell? ⟨w.heap.size, R.length * 5, none⟩ = some (.int .i64 (-77)) := by
    rw [cell_of_row w3 _ _ _ 30 (0, 0) hg3]
    simp only [List.getElem?_toArray]
    rw [List.getElem?_append_right (by rw [cellsOf_len]; omega), cellsOf_len, Nat.sub_self]; rfl
  have hlt3 : w.heap.size < w3.heap.size := (Array.getElem?_eq_some_iff.1 hg3).1
  have K3 := hide (row_held hg3)
  have HC3 := hide hcell3
  clear hw3 hg3 hcell3 hcell2 hfro2 hcp HG2 hb1 hb2
  refine (unhide E1 _ _ _ (unhide K3)).mono ?_
  rintro e w4 ⟨rfl, hb4⟩
  go_wp2_with fail
  refine (unhide E2 _ _ _ (hH.below (hb3.trans (hb4.mono hb3.size)))).mono ?_
  rintro e w5 ⟨rfl, hb5⟩
  have hb35 := hb4.trans (hb5.mono hb4.size)
  have hb05 := hb3.trans (hb35.mono hb3.size)
  clear hb4 hb5
  go_wp2_with fail
  refine (unhide S1 _ _ _ _ _ ((unhide K3).below hb35) (hH.below hb05)).mono ?_
  rintro e w6 ⟨rfl, hb6⟩
  have hb36 := hb35.trans (hb6.mono hb35.size)
  have hb06 := hb3.trans (hb36.mono hb3.size)
  have hcell6 : w6.cell? ⟨w.heap.size, R.length * 5, none⟩ = some (.int .i64 (-77)) := (hb36.cell hlt3).trans (unhide HC3)
  clear hb35 hb05 hb6 hb36 HC3
  go_wp2_with fail
  refine (unhide D1 _).mono ?_
  rintro e w7 ⟨v1, rfl, ho1, hb7⟩
  have F1 := hide (own_form ho1)
  clear ho1
  have hb07 := hb06.trans (hb7.mono hb06.size)
  rcases unhide F1 with ⟨rfl, hh1, hT0⟩ | ⟨g, cap1, cur1, rfl, hge1, hlt1, hhp1, hcs1, hcm1, hcl1, hh1⟩
  · have H0 := hide hT0
    clear hT0
    clear F1
    have K1 := hide hh1
    clear hh1 hcell6
    go_wp2_with fail
    refine (unhide D1 _).mono ?_
    rintro e w8 ⟨v2, rfl, ho2, hb8⟩
    obtain ⟨a2, c2, rfl, hh2, hl2, hn2, hin2⟩ := own_held ho2
    have K2 := hide hh2
    have I2 := hide hin2
    have hb08 := hb07.trans (hb8.mono hb07.size)
    clear ho2 hh2 hn2 hin2
    go_wp2_with fail
    refine (unhide D2 _).mono ?_
    rintro e w9 ⟨v3, rfl, ho3, hb9⟩
    obtain ⟨a3, c3, rfl, hh3, hl3, hn3, hin3⟩ := own_held ho3
    have K3 := hide hh3
    have I3 := hide hin3
    have hb09 := hb08.trans (hb9.mono hb08.size)
    have hb79 := hb8.trans (hb9.mono hb8.size)
    clear ho3 hh3 hn3 hin3
    go_wp2_with fail
    refine (unhide S2 _ _ _ _ _ ((unhide K1).below hb79) (unhide K3)).mono ?_
    rintro e w10 ⟨rfl, hb10⟩
    have hb010 := hb09.trans (hb10.mono hb09.size)
    have hb810 := hb9.trans (hb10.mono hb9.size)
    have hb710 := hb79.trans (hb10.mono hb79.size)
    have K2' := hide ((unhide K2).below hb810)
    have K3' := hide ((unhide K3).below hb10)
    clear hb9 hb79 hb09 hb08 K2 K3
    go_wp2_with fail
    refine wp_loop_rounds 1 ?_; rw [rounds_succ]
    go_wp2_with fail
    refine (unhide D1 _).mono ?_
    rintro e w11 ⟨v4, rfl, ho4, hb11⟩
    obtain ⟨a4, c4, rfl, hh4, hl4, hn4, hin4⟩ := own_held ho4
    have hbe := hb010.trans (hb11.mono hb010.size)
    clear ho4 hn4 hin4
    go_wp2_with fail
    refine (unhide S2 _ _ _ _ _ hh4 ((unhide K3').below hb11)).mono ?_
    rintro e w12 ⟨rfl, hb12⟩
    have hb1112 := hb11.trans (hb12.mono hb11.size)
    have hbf := hbe.trans (hb12.mono hbe.size)
    go_wp2_with fail
    refine (unhide S2 _ _ _ _ _ ((unhide K2').below hb1112) ((unhide K3').below hb1112)).mono ?_
    rintro e w13 ⟨rfl, hb13⟩
    go_wp2
    go_ret
    exact ⟨rfl, hbf.trans (hb13.mono hbf.size)⟩
  · have H1 := hide (And.intro hhp1 hcs1)
    clear hhp1 hcs1
    unfold maxLen at hcm1
    clear F1
    have K1 := hide hh1
    clear hh1 hcell6
    go_wp2_with fail
    refine (unhide D1 _).mono ?_
    rintro e w8 ⟨v2, rfl, ho2, hb8⟩
    obtain ⟨a2, c2, rfl, hh2, hl2, hn2, hin2⟩ := own_held ho2
    have K2 := hide hh2
    have I2 := hide hin2
    have hb08 := hb07.trans (hb8.mono hb07.size)
    clear ho2 hh2 hn2 hin2
    go_wp2_with fail
    refine (unhide D2 _).mono ?_
    rintro e w9 ⟨v3, rfl, ho3, hb9⟩
    obtain ⟨a3, c3, rfl, hh3, hl3, hn3, hin3⟩ := own_held ho3
    have K3 := hide hh3
    have I3 := hide hin3
    have hb09 := hb08.trans (hb9.mono hb08.size)
    have hb79 := hb8.trans (hb9.mono hb8.size)
    clear ho3 hh3 hn3 hin3
    go_wp2_with fail
    refine (unhide S2 _ _ _ _ _ ((unhide K1).below hb79) (unhide K3)).mono ?_
    rintro e w10 ⟨rfl, hb10⟩
    have hb010 := hb09.trans (hb10.mono hb09.size)
    have hb810 := hb9.trans (hb10.mono hb9.size)
    have hb710 := hb79.trans (hb10.mono hb79.size)
    have K2' := hide ((unhide K2).below hb810)
    have K3' := hide ((unhide K3).below hb10)
    clear hb9 hb79 hb09 hb08 K2 K3
    go_wp2_with fail
    go_loopw [19] (fun i wr => ∃ k : Nat, k ≤ cap1 ∧ i = .int .i64 k ∧ (∃ cur : Array Value, wr.heap[g]? = some (.cells cur 30 (0, 0)) ∧ cur.size = cap1 * 5) ∧ Held wr a2 T ∧ Held wr a3 T ∧ Below w.heap.size w wr) (fun i _ => cap1 - (intOf i).toNat)
    case atStart => exact ⟨0, Nat.zero_le _, rfl, ⟨cur1, by rw [hb710.block g hlt1]; exact (unhide H1).1, (unhide H1).2⟩, unhide K2', unhide K3', hb010⟩
    case round =>
      obtain ⟨k, hk, rfl, hcur, hA2, hA3, hbel⟩ := hrel
      have KC := hide hcur
      have KA2 := hide hA2
      have KA3 := hide hA3
      clear hcur hA2 hA3
      by_cases hlt : k < cap1
      · obtain ⟨cur, hp, hcz⟩ := unhide KC
        obtain ⟨y2, hc⟩ : ∃ y2, wr.cell? ⟨g, k * 5, none⟩ = some y2 := by
          rw [cell_of_row wr g _ _ 30 (0, 0) hp]; exact ⟨_, Array.getElem?_eq_getElem (by omega)⟩
        have hf : wr.frozen? ⟨g, k * 5, none⟩ = false := by simp [World.frozen?, hp]
        have hset := heap_setCell_same wr g (k * 5) cur 30 (.int .i64 (-77)) hp
        have HS := hide hset
        have HZ2 := hide hcz
        clear hset hp hcz
        go_wp2
        go_roundw
        case rel => exact ⟨k + 1, by omega, by go_num, ⟨_, unhide HS, by rw [Array.size_setIfInBounds]; exact unhide HZ2⟩, held_setCell (unhide KA2) (fun b o sp e => by have := (unhide I2 b o sp e).1; omega), held_setCell (unhide KA3) (fun b o sp e => by have := (unhide I3 b o sp e).1; have := hb8.size; omega), hbel.setCell (show w.heap.size ≤ g by have := hb06.size; omega) _⟩
        case measure => simp [intOf]; omega
      · go_wp2_with fail
        refine (unhide D1 _).mono ?_
        rintro e w11 ⟨v4, rfl, ho4, hb11⟩
        obtain ⟨a4, c4, rfl, hh4, hl4, hn4, hin4⟩ := own_held ho4
        have hbe := hbel.trans (hb11.mono hbel.size)
        clear ho4 hn4 hin4
        go_wp2_with fail
        refine (unhide S2 _ _ _ _ _ hh4 ((unhide KA3).below hb11)).mono ?_
        rintro e w12 ⟨rfl, hb12⟩
        have hb1112 := hb11.trans (hb12.mono hb11.size)
        have hbf := hbe.trans (hb12.mono hbe.size)
        go_wp2_with fail
        refine (unhide S2 _ _ _ _ _ ((unhide KA2).below hb1112) ((unhide KA3).below hb1112)).mono ?_
        rintro e w13 ⟨rfl, hb13⟩
        go_wp2
        go_ret
        exact ⟨rfl, hbf.trans (hb13.mono hbf.size)⟩
end Go.Proofs.Ytoepcplbpochpaa
