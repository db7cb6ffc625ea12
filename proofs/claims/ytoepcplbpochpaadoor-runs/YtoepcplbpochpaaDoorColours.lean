/-
  The colours: lodge.findColours.
-/
import Derived.Test.YtoepcplbpochpaaDoorFirst
namespace Go.Proofs.YtoepcplbpochpaaDoor
open Go.RowKit

theorem zero145 : (#[.int .i64 0, .int .i64 0, .int .i64 0, .int .i64 0, .int .i64 0, .int .i64 0, .int .i64 0, .int .i64 0, .int .i64 0, .int .i64 0, .int .i64 0, .int .i64 0] : Array Value) = rowA 12 (numV (fun _ => 0)) := by kernel_rfl
theorem Tryd.size145 : (Tryd.prog.info? 145).map (·.size) = some 12 := by kernel_rfl
theorem zero105 : (#[.bool false, .bool false, .bool false, .bool false, .bool false, .bool false, .bool false, .bool false, .bool false, .bool false, .bool false, .bool false] : Array Value) = rowA 12 (setV (fun _ => false)) := by kernel_rfl
theorem num_cell {w : World} {B T n : Nat} {c : Nat → Nat} (h : Rowd w B T n (numV c)) {r : Nat} (hr : r < n) : w.cell? ⟨B, r, none⟩ = some (.int .i64 (c r)) := h.cell hr

set_option maxRecDepth 100000 in
set_option maxHeartbeats 4000000 in
theorem colours_any (P V : Int) (R : Nat) (L : List In4) (ao : Option Addr) (cap : Nat) (w : World) (hH : HeldIns w ao L) (hR : R ≤ 12) (hn1 : 1 ≤ L.length) (hn : L.length ≤ 40)
    (hd : ∀ i, i < L.length → isWr (inAt L i).op = true → 0 ≤ (inAt L i).d ∧ (inAt L i).d < 12 ∧ i + 1 < L.length) :
    Calls Tryd.prog 96 #[.agg #[.int .i64 P, .int .i64 R, .int .i64 V, .slice ao L.length cap], .agg (rowA 480 (gridV (liveB L)))] w fun e w' => e = .returned (.agg (rowA 12 (numV (colB L R)))) ∧ Below w.heap.size w w' := by
  have KC := hide (fun w (hH : HeldIns w ao L) => collide_any P V R L ao cap w hH hR hn1 hn hd)
  have HH := hide hH
  have HCO := hide (fun k (hk : k ≤ 12) r (hr : r < k) => (colTo_le (hitB L R) k hk r hr).1)
  clear hH hd
  go_enter Tryd.func96, Tryd.ntmps96
  go_upto_region 1 with fail
  obtain ⟨w1, hw1, HP1, HV1, HR1, HL1, hz1⟩ := open_pl w P R V (.slice ao L.length cap) 480 12 145 (gridV (liveB L)) (numV (fun _ => 0))
  rw [zero145, ← hw1]
  clear hw1
  have p0 := (unhide HP1).c0
  have p1 := (unhide HP1).c1
  have p2 := (unhide HP1).c2
  have p3 := (unhide HP1).c3
  have KC' := hide (unhide KC w1 ((unhide HH).below (unhide HL1)))
  iterate 60 (first | (refine wpList_load_row rfl 108 _ rfl (w.heap.size + 1) rfl 108 _ (0, 0) _ (unhide HV1) Tryd.underlying108 rfl (by rw [rowA_size]; exact Tryd.size108) ?_; clear HV1) | go_values | go_skip | go_guarded | go_step | skip)
  refine (unhide KC').mono ?_
  rintro e w2 ⟨rfl, hb2⟩
  have HP2 := hide ((unhide HP1).below hb2)
  have HR2 := hide ((unhide HR1).below hb2)
  have HL2 : Hid (Below w.heap.size w w2) := (unhide HL1).trans (hb2.mono (unhide HL1).size)
  have hz2 : w.heap.size + 1 + 1 < w2.heap.size := Nat.lt_of_lt_of_le hz1 hb2.size
  clear hb2 p0 p1 p2 p3 KC' HP1 HR1 HL1
  go_wp2_with (refine wpList_store_row ?h1 184 ?h2 ?h3 ?h4 w2.heap.size ?h5 ?h6 ?h7 ?h8 ?h9 ?h10 ?h11 ?h12 ?h13 ?h14; case h4 => rfl)
  case h1 => rfl
  case h6 => rfl
  case h7 => rfl
  case h10 => exact heap_alloc_new _ _
  case h11 => rw [rowA_size]; exact Tryd.size184
  case h12 => rw [rowA_size, zero184, rowA_size]
  case h13 => exact rowA_plain (fun _ _ => rfl)
  rw [World.setRow_alloc_new]
  obtain ⟨w3, hw3, HH3, HL3', hz3⟩ := box_row w2 184 144 (gridV (hitB L R))
  have e3 : w2.heap.size + 1 = w3.heap.size := by rw [hw3]; simp
  rw [← hw3, e3]
  clear hw3 e3
  have HP3 := hide ((unhide HP2).below (unhide HL3'))
  have HR3 := hide ((unhide HR2).below (unhide HL3'))
  have HL3 : Hid (Below w.heap.size w w3) := (unhide HL2).trans ((unhide HL3').mono (by omega))
  clear HP2 HR2 HL2 HL3'
  go_wp2_with fail
  rw [zero145]
  obtain ⟨w4, hw4, HC4, HL4', hz4⟩ := box_row w3 145 12 (numV (fun _ => 0))
  rw [← hw4]
  clear hw4
  have HP4 := hide ((unhide HP3).below (unhide HL4'))
  have HR4 := hide ((unhide HR3).below (unhide HL4'))
  have HH4 := hide ((unhide HH3).below (unhide HL4'))
  have HL4 : Hid (Below w.heap.size w w4) := (unhide HL3).trans ((unhide HL4').mono (by omega))
  clear HP3 HR3 HH3 HL3 HL4'
  go_loopw [7] (fun i' wr => ∃ k : Nat, k ≤ R ∧ i' = .int .i64 k ∧ Hid (Rowd wr w3.heap.size 145 12 (numV (colTo (hitB L R) k))) ∧ Hid (Rowd wr w2.heap.size 184 144 (gridV (hitB L R))) ∧ Hid (ProgB wr w.heap.size P R V (.slice ao L.length cap)) ∧ Hid (Rowd wr (w.heap.size + 1 + 1) 145 12 (numV (fun _ => 0))) ∧ Hid (Below w.heap.size w wr)) (fun i' _ => R - (intOf i').toNat)
  case atStart => exact ⟨0, by omega, rfl, unhide HC4, unhide HH4, unhide HP4, unhide HR4, unhide HL4⟩
  case round =>
    clear HC4 HH4 HP4 HR4 HL4
    obtain ⟨k, hk, rfl, HC, HG, HP, HR, HL⟩ := hrel
    have p1 := (unhide HP).c1
    by_cases hlt : k < R
    case neg =>
      have hkR : k = R := by omega
      have HC' : Hid (Rowd wr w3.heap.size 145 12 (numV (colB L R))) := by rw [hkR] at HC; exact unhide HC
      clear HC
      iterate 60 (first | (refine wpList_load_row rfl 145 _ rfl w3.heap.size rfl 145 _ (0, 0) _ (unhide HC') Tryd.underlying145 rfl (by rw [rowA_size]; exact Tryd.size145) ?_; refine wpList_store_row rfl 145 _ _ rfl (w.heap.size + 1 + 1) (rowA 12 (numV (colB L R))) rfl rfl 145 _ (unhide HR) (by rw [rowA_size]; exact Tryd.size145) (by rw [rowA_size, rowA_size]) (rowA_plain (fun _ _ => rfl)) ?_; clear HC') | go_values | go_skip | go_guarded | go_step | skip)
      go_wp2_with fail
      refine bodyPost_ret (results_cell_row rfl _ _ (w.heap.size + 1 + 1) 145 _ (0, 0) _ rfl (setRow_heap wr (w.heap.size + 1 + 1) _ _ 145 _ (unhide HR)) Tryd.underlying145 rfl (by rw [rowA_size]; exact Tryd.size145)) rfl ?_
      exact ⟨rfl, below_setRow (unhide HL) (by omega) _⟩
    have hki : (k : Int) < 12 := by omega
    obtain ⟨w5, hw5, HT5, HL5', hz5⟩ := box_row wr 105 12 (setV (fun _ => false))
    have HW5 := hide hw5
    have HC5 := hide ((unhide HC).below (unhide HL5'))
    have HG5 := hide ((unhide HG).below (unhide HL5'))
    have HP5 := hide ((unhide HP).below (unhide HL5'))
    have HR5 := hide ((unhide HR).below (unhide HL5'))
    have HL5 : Hid (Below w.heap.size w w5) := (unhide HL).trans ((unhide HL5').mono (unhide HL).size)
    have hlC := (unhide HC).lt
    have hlG := (unhide HG).lt
    clear hw5 HC HG HR HL5' 
    go_wp2_with fail
    rw [zero105, ← unhide HW5]
    clear p1 HP HL HW5
    obtain ⟨wo, rfl⟩ : ∃ wo, wo = wr := ⟨_, rfl⟩
    go_loopw [9] (fun i' wr => ∃ s : Nat, s ≤ k ∧ i' = .int .i64 s ∧ Hid (Rowd wr wo.heap.size 105 12 (setV (takenB (hitB L R) (colTo (hitB L R) k) k s))) ∧ Hid (Rowd wr w3.heap.size 145 12 (numV (colTo (hitB L R) k))) ∧ Hid (Rowd wr w2.heap.size 184 144 (gridV (hitB L R))) ∧ Hid (ProgB wr w.heap.size P R V (.slice ao L.length cap)) ∧ Hid (Rowd wr (w.heap.size + 1 + 1) 145 12 (numV (fun _ => 0))) ∧ Hid (Below w.heap.size w wr)) (fun i' _ => k - (intOf i').toNat)
    case atStart => exact ⟨0, by omega, rfl, unhide HT5, unhide HC5, unhide HG5, unhide HP5, unhide HR5, unhide HL5⟩
    case round =>
      clear HT5 HC5 HG5 HP5 HR5 HL5
      obtain ⟨s, hs, rfl, HT, HC, HG, HP, HR, HL⟩ := hrel
      by_cases hls : s < k
      · have hsi : (s : Int) < 12 := by omega
        have g := gcell (unhide HG) (i := k) (r := s) (by omega) (by omega)
        obtain ⟨t, ht⟩ : ∃ t, t = hitB L R k s := ⟨_, rfl⟩
        rw [← ht] at g
        have HTT := hide ht
        clear ht
        cases t
        · go_wp2_with fail
          go_roundw
          case rel => exact ⟨s + 1, by omega, by go_num, (unhide HT).congr (fun o ho => by show Value.bool (takenB _ _ k s o) = Value.bool (takenB _ _ k s o || (hitB L R k s && _)); rw [← unhide HTT]; simp), unhide HC, unhide HG, unhide HP, unhide HR, unhide HL⟩
          case measure => simp [intOf]; omega
        · have cs := num_cell (unhide HC) (r := s) (by omega)
          have hcs : colTo (hitB L R) k s ≤ s := unhide HCO k (by omega) s hls
          obtain ⟨q, hq⟩ : ∃ q, q = colTo (hitB L R) k s := ⟨_, rfl⟩
          rw [← hq] at cs hcs
          have HQ := hide hq
          have hqi : (q : Int) < 12 := by omega
          have hf : ∀ o, wr.frozen? ⟨wo.heap.size, o, none⟩ = false := (unhide HT).free
          obtain ⟨old, hold⟩ : ∃ v, wr.cell? ⟨wo.heap.size, q, none⟩ = some v := ⟨_, (unhide HT).cell (by omega)⟩
          clear hq
          go_wp2_with fail
          go_roundw
          case rel =>
            have hset := (unhide HT).set q (.bool true)
            refine ⟨s + 1, by omega, by go_num, hset.congr (fun o ho => ?_), (unhide HC).of_block (heap_setCell_other _ _ _ _ (show w3.heap.size ≠ wo.heap.size by omega)), (unhide HG).of_block (heap_setCell_other _ _ _ _ (show w2.heap.size ≠ wo.heap.size by omega)), (heap_setCell_other _ _ _ _ (show w.heap.size ≠ wo.heap.size by omega)).trans (unhide HP), (unhide HR).of_block (heap_setCell_other _ _ _ _ (show w.heap.size + 1 + 1 ≠ wo.heap.size by omega)), (unhide HL).setCell (p := ⟨wo.heap.size, q, none⟩) (show w.heap.size ≤ wo.heap.size by omega) _⟩
            unfold setV
            show (if o = q then Value.bool true else Value.bool (takenB _ _ k s o)) = Value.bool (takenB _ _ k s o || (hitB L R k s && o == colTo (hitB L R) k s))
            rw [← unhide HTT, ← unhide HQ, Bool.true_and]
            by_cases e : o = q
            · rw [if_pos e, e]; simp
            · rw [if_neg e, show (o == q) = false by rw [beq_eq_false_iff_ne]; exact e, Bool.or_false]
          case measure => simp [intOf]; omega
      · have hsk : s = k := by omega
        have HT' : Hid (Rowd wr wo.heap.size 105 12 (setV (takenB (hitB L R) (colTo (hitB L R) k) k k))) := by rw [hsk] at HT; exact unhide HT
        have KF := hide (first_any (takenB (hitB L R) (colTo (hitB L R) k) k k) wr)
        clear HT
        iterate 60 (first | (refine wpList_load_row rfl 105 _ rfl wo.heap.size rfl 105 _ (0, 0) _ (unhide HT') Tryd.underlying105 rfl (by rw [rowA_size]; exact Tryd.size105) ?_; clear HT') | go_values | go_skip | go_guarded | go_step | skip)
        refine (unhide KF).mono ?_
        rintro e w6 ⟨rfl, hb6⟩
        have HC6 := hide ((unhide HC).below hb6)
        have HG6 := hide ((unhide HG).below hb6)
        have HP6 := hide ((unhide HP).below hb6)
        have HR6 := hide ((unhide HR).below hb6)
        have HL6 : Hid (Below w.heap.size w w6) := (unhide HL).trans (hb6.mono (unhide HL).size)
        have hf : ∀ o, w6.frozen? ⟨w3.heap.size, o, none⟩ = false := (unhide HC6).free
        obtain ⟨old, hold⟩ : ∃ v, w6.cell? ⟨w3.heap.size, k, none⟩ = some v := ⟨_, (unhide HC6).cell (by omega)⟩
        clear hb6 HC HG HP HR HL KF
        go_wp2_with fail
        go_roundw
        case rel =>
          have hset := (unhide HC6).set k (.int .i64 (firstF (takenB (hitB L R) (colTo (hitB L R) k) k k)))
          refine ⟨k + 1, by omega, by go_num, hset.congr (fun o ho => ?_), (unhide HG6).of_block (heap_setCell_other _ _ _ _ (show w2.heap.size ≠ w3.heap.size by omega)), (heap_setCell_other _ _ _ _ (show w.heap.size ≠ w3.heap.size by omega)).trans (unhide HP6), (unhide HR6).of_block (heap_setCell_other _ _ _ _ (show w.heap.size + 1 + 1 ≠ w3.heap.size by omega)), (unhide HL6).setCell (p := ⟨w3.heap.size, k, none⟩) (show w.heap.size ≤ w3.heap.size by omega) _⟩
          unfold numV
          show (if o = k then _ else _) = Value.int .i64 ((if o = k then _ else _ : Nat) : Int)
          by_cases e : o = k
          · rw [if_pos e, if_pos e]
          · rw [if_neg e, if_neg e]
        case measure => simp [intOf]; omega
end Go.Proofs.YtoepcplbpochpaaDoor
