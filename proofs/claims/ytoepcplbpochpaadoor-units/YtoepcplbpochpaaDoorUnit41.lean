/-
  The first colour that is free, how many colours there are, how many slots: lodge.firstFree, lodge.countColours, lodge.countSlots.
-/
import Derived.Test.YtoepcplbpochpaaDoorUnit40

namespace Go.Proofs.YtoepcplbpochpaaDoor
open Go.RowKit

set_option maxRecDepth 100000 in
set_option maxHeartbeats 4000000 in
theorem first_any (t : Nat → Bool) (w : World) : Calls Tryd.prog 125 #[.agg (rowA 12 (setV t))] w fun e w' => e = .returned (.int .i64 (firstF t)) ∧ Below w.heap.size w w' := by
  obtain ⟨w1, hw1, HC1, HL1, hz1⟩ := box_row w 105 12 (setV t)
  have HW := hide hw1
  have HF := hide (show ∀ n, n < 11 → ffFrom t n (11 - n) = if t n = true then ffFrom t (n + 1) (11 - (n + 1)) else n from fun n hn => by
    obtain ⟨m, hm⟩ : ∃ m, 11 - n = m + 1 := ⟨10 - n, by omega⟩
    rw [hm, show 11 - (n + 1) = m by omega]; rfl)
  clear hw1
  go_enter Tryd.func125, Tryd.ntmps125
  go_wp2_with fail
  rw [← unhide HW]
  go_wp2_with fail
  go_loop [3] (fun i' => ∃ n : Nat, n ≤ 11 ∧ i' = .int .i64 n ∧ Hid (ffFrom t n (11 - n) = firstF t)) (fun i' => 11 - (intOf i').toNat)
  case atStart => exact ⟨0, by omega, rfl, rfl⟩
  case round =>
    obtain ⟨n, hn, rfl, HN⟩ := hrel
    by_cases hlt : n < 11
    case neg =>
      obtain rfl : n = 11 := by omega
      go_wp2_with fail
      go_ret
      exact ⟨ret_int (by have := unhide HN; rw [← this]; rfl), unhide HL1⟩
    have c := (unhide HC1).cell (show n < 12 by omega)
    have hni : (n : Int) < 11 := by omega
    unfold setV at c
    obtain ⟨b, hb⟩ : ∃ b, b = t n := ⟨_, rfl⟩
    rw [← hb] at c
    have HB := hide hb
    clear hb
    cases b
    · go_wp2_with fail
      go_ret
      exact ⟨ret_int (by have := unhide HN; rw [← this, unhide HF n hlt, if_neg (by rw [← unhide HB]; decide)]), unhide HL1⟩
    · go_wp2_with fail
      go_round
      case rel => exact ⟨n + 1, by omega, by go_num, by have h := unhide HN; rw [unhide HF n hlt, if_pos (unhide HB).symm] at h; exact h⟩
      case measure => simp [intOf]; omega

/-- The head of a function that takes a program and a row. -/
theorem open_pr (w : World) (P R V : Int) (sl : Value) (n T : Nat) (c : Nat → Value) : ∃ w1, w1 = (w.alloc (.cells #[.int .i64 P, .int .i64 R, .int .i64 V, sl] 24)).alloc (.cells (rowA n c) T) ∧
    Hid (ProgB w1 w.heap.size P R V sl) ∧ Hid (Rowd w1 (w.heap.size + 1) T n c) ∧ Hid (Below w.heap.size w w1) := by
  refine ⟨_, rfl, ?_, two_new _ _ _, ?_⟩
  · exact (progb_alloc w P R V sl).below (below_alloc _ _)
  · exact (below_alloc _ _).alloc (by simp) _

set_option maxRecDepth 100000 in
set_option maxHeartbeats 4000000 in
theorem count_any (P V : Int) (R : Nat) (sl : Value) (c : Nat → Nat) (hR : R ≤ 12) (hc : ∀ r, c r ≤ 12) (w : World) :
    Calls Tryd.prog 97 #[.agg #[.int .i64 P, .int .i64 R, .int .i64 V, sl], .agg (rowA 12 (numV c))] w fun e w' => e = .returned (.int .i64 (cntTo c R)) ∧ Below w.heap.size w w' := by
  obtain ⟨w1, hw1, HP1, HC1, HL1⟩ := open_pr w P R V sl 12 145 (numV c)
  have HW := hide hw1
  have p1 := (unhide HP1).c1
  have HS := hide (show ∀ k, cntTo c (k + 1) = if cntTo c k ≤ c k then c k + 1 else cntTo c k from fun _ => rfl)
  clear hw1
  go_enter Tryd.func97, Tryd.ntmps97
  go_wp2_with fail
  rw [← unhide HW]
  go_wp2_with fail
  go_loop [5, 6] (fun s i' => ∃ k : Nat, k ≤ R ∧ i' = .int .i64 k ∧ ∃ m : Nat, s = .int .i64 m ∧ Hid (m = cntTo c k) ∧ m ≤ 13) (fun _ i' => R - (intOf i').toNat)
  case atStart => exact ⟨0, by omega, rfl, 0, rfl, rfl, by omega⟩
  case round =>
    obtain ⟨k, hk, rfl, m, rfl, HM, hm⟩ := hrel
    by_cases hlt : k < R
    case neg =>
      have hkR : k = R := by omega
      go_wp2_with fail
      go_ret
      exact ⟨ret_int (by rw [unhide HM, hkR]), unhide HL1⟩
    have hki : (k : Int) < 12 := by omega
    have cc := (unhide HC1).cell (show k < 12 by omega)
    unfold numV at cc
    have hck := hc k
    obtain ⟨d, hd⟩ : ∃ d, d = c k := ⟨_, rfl⟩
    rw [← hd] at cc hck
    have HD := hide hd
    clear hd
    by_cases hg : m ≤ d
    · go_wp2_with fail
      go_round
      case rel => exact ⟨k + 1, by omega, by go_num, d + 1, by go_num, hide (by rw [unhide HS, ← unhide HM, ← unhide HD, if_pos hg]), by omega⟩
      case measure => simp [intOf]; omega
    · go_wp2_with fail
      go_round
      case rel => exact ⟨k + 1, by omega, by go_num, m, rfl, hide (by rw [unhide HS, ← unhide HM, ← unhide HD, if_neg hg]), hm⟩
      case measure => simp [intOf]; omega

/-- Twelve homes. -/
def homV (hs : Nat → Bool) (ha : Nat → Nat) : Nat → Value := fun o => if o % 2 = 0 then .bool (hs (o / 2)) else .int .i64 (ha (o / 2))
theorem hom_s {w : World} {B T n : Nat} {hs : Nat → Bool} {ha : Nat → Nat} (h : Rowd w B T n (homV hs ha)) {r : Nat} (hr : r * 2 < n) : w.cell? ⟨B, r * 2, none⟩ = some (.bool (hs r)) := by
  rw [h.cell hr]; unfold homV; rw [if_pos (by omega), show r * 2 / 2 = r by omega]
theorem hom_a {w : World} {B T n : Nat} {hs : Nat → Bool} {ha : Nat → Nat} (h : Rowd w B T n (homV hs ha)) {r : Nat} (hr : r * 2 + 1 < n) : w.cell? ⟨B, r * 2 + 1, none⟩ = some (.int .i64 (ha r)) := by
  rw [h.cell hr]; unfold homV; rw [if_neg (by omega), show (r * 2 + 1) / 2 = r by omega]

set_option maxRecDepth 100000 in
set_option maxHeartbeats 4000000 in
theorem slots_any (V : Int) (P R : Nat) (sl : Value) (hs : Nat → Bool) (ha : Nat → Nat) (hR : R ≤ 12) (hP : P ≤ R) (w : World) :
    Calls Tryd.prog 72 #[.agg #[.int .i64 P, .int .i64 R, .int .i64 V, sl], .agg (rowA 24 (homV hs ha))] w fun e w' => e = .returned (.int .i64 (slTo hs P (R - P))) ∧ Below w.heap.size w w' := by
  obtain ⟨w1, hw1, HP1, HC1, HL1⟩ := open_pr w P R V sl 24 113 (homV hs ha)
  have HW := hide hw1
  have p0 := (unhide HP1).c0
  have p1 := (unhide HP1).c1
  have HS := hide (show ∀ m, slTo hs P (m + 1) = if hs (P + m) = true then P + m + 1 else slTo hs P m from fun _ => rfl)
  clear hw1
  go_enter Tryd.func72, Tryd.ntmps72
  go_wp2_with fail
  rw [← unhide HW]
  go_wp2_with fail
  go_loop [5, 6] (fun s i' => ∃ k : Nat, P ≤ k ∧ k ≤ R ∧ i' = .int .i64 k ∧ ∃ m : Nat, s = .int .i64 m ∧ Hid (m = slTo hs P (k - P)) ∧ m ≤ 13) (fun _ i' => R - (intOf i').toNat)
  case atStart => exact ⟨P, by omega, hP, rfl, P, rfl, hide (by rw [Nat.sub_self]; rfl), by omega⟩
  case round =>
    obtain ⟨k, hPk, hk, rfl, m, rfl, HM, hm⟩ := hrel
    by_cases hlt : k < R
    case neg =>
      have hkR : k = R := by omega
      go_wp2_with fail
      go_ret
      exact ⟨ret_int (by rw [unhide HM, hkR]), unhide HL1⟩
    have hki : (k : Int) < 12 := by omega
    have cc := hom_s (unhide HC1) (r := k) (by omega)
    have HS' := hide (unhide HS (k - P))
    rw [show P + (k - P) = k by omega, show k - P + 1 = k + 1 - P by omega] at HS'
    obtain ⟨d, hd⟩ : ∃ d, d = hs k := ⟨_, rfl⟩
    rw [← hd] at cc HS'
    clear hd
    cases d
    · go_wp2_with fail
      go_round
      case rel => exact ⟨k + 1, by omega, by omega, by go_num, m, rfl, hide (by rw [unhide HS', if_neg (by decide)]; exact unhide HM), hm⟩
      case measure => simp [intOf]; omega
    · go_wp2_with fail
      go_round
      case rel => exact ⟨k + 1, by omega, by omega, by go_num, k + 1, by go_num, hide (by rw [unhide HS', if_pos rfl]), by omega⟩
      case measure => simp [intOf]; omega
end Go.Proofs.YtoepcplbpochpaaDoor

/-
  The colours: lodge.findColours.
-/
namespace Go.Proofs.YtoepcplbpochpaaDoor
open Go.RowKit

theorem zero145 : (#[.int .i64 0, .int .i64 0, .int .i64 0, .int .i64 0, .int .i64 0, .int .i64 0, .int .i64 0, .int .i64 0, .int .i64 0, .int .i64 0, .int .i64 0, .int .i64 0] : Array Value) = rowA 12 (numV (fun _ => 0)) := by kernel_rfl
theorem Tryd.size145 : (Tryd.prog.info? 145).map (·.size) = some 12 := by kernel_rfl
theorem zero105 : (#[.bool false, .bool false, .bool false, .bool false, .bool false, .bool false, .bool false, .bool false, .bool false, .bool false, .bool false, .bool false] : Array Value) = rowA 12 (setV (fun _ => false)) := by kernel_rfl
theorem num_cell {w : World} {B T n : Nat} {c : Nat → Nat} (h : Rowd w B T n (numV c)) {r : Nat} (hr : r < n) : w.cell? ⟨B, r, none⟩ = some (.int .i64 (c r)) := h.cell hr

set_option maxRecDepth 100000 in
set_option maxHeartbeats 4000000 in
theorem colours_any (P V : Int) (R : Nat) (L : List In4) (ao : Option Addr) (cap : Nat) (w : World) (hH : HeldIns w ao L) (hR : R ≤ 12) (hn1 : 1 ≤ L.length) (hn : L.length ≤ 40)
    (hd : ∀ i, i < L.length → isWr (inAt L i).op = true → 0 ≤ (inAt L i).d ∧ (inAt L i).d < 12 ∧ i + 1 < L.length) :
    Calls Tryd.prog 96 #[.agg #[.int .i64 P, .int .i64 R, .int .i64 V, .slice ao L.length cap], .agg (rowA 480 (gridV (liveB L)))] w fun e w' => e = .returned (.agg (rowA 12 (numV (colB L R)))) ∧ Below w.heap.size w w' := by
  have KC := hide (fun w (hH : HeldIns w ao L) => collide_any P V R L ao cap w hH hR hn1 hn hd)
  have HH := hide hH
  have HCO := hide (fun k (hk : k ≤ 12) r (hr : r < k) => (colTo_le (hitB L R) k hk r hr).1)
  clear hH hd
  go_enter Tryd.func96, Tryd.ntmps96
  go_upto_region 1 with fail
  obtain ⟨w1, hw1, HP1, HV1, HR1, HL1, hz1⟩ := open_pl w P R V (.slice ao L.length cap) 480 12 145 (gridV (liveB L)) (numV (fun _ => 0))
  rw [zero145, ← hw1]
  clear hw1
  have p0 := (unhide HP1).c0
  have p1 := (unhide HP1).c1
  have p2 := (unhide HP1).c2
  have p3 := (unhide HP1).c3
  have KC' := hide (unhide KC w1 ((unhide HH).below (unhide HL1)))
  iterate 60 (first | (refine wpList_load_row rfl 108 _ rfl (w.heap.size + 1) rfl 108 _ (0, 0) _ (unhide HV1) Tryd.underlying108 rfl (by rw [rowA_size]; exact Tryd.size108) ?_; clear HV1) | go_values | go_skip | go_guarded | go_step | skip)
  refine (unhide KC').mono ?_
  rintro e w2 ⟨rfl, hb2⟩
  have HP2 := hide ((unhide HP1).below hb2)
  have HR2 := hide ((unhide HR1).below hb2)
  have HL2 : Hid (Below w.heap.size w w2) := (unhide HL1).trans (hb2.mono (unhide HL1).size)
  have hz2 : w.heap.size + 1 + 1 < w2.heap.size := Nat.lt_of_lt_of_le hz1 hb2.size
  clear hb2 p0 p1 p2 p3 KC' HP1 HR1 HL1
  go_wp2_with (refine wpList_store_row ?h1 184 ?h2 ?h3 ?h4 w2.heap.size ?h5 ?h6 ?h7 ?h8 ?h9 ?h10 ?h11 ?h12 ?h13 ?h14; case h4 => rfl)
  case h1 => rfl
  case h6 => rfl
  case h7 => rfl
  case h10 => exact heap_alloc_new _ _
  case h11 => rw [rowA_size]; exact Tryd.size184
  case h12 => rw [rowA_size, zero184, rowA_size]
  case h13 => exact rowA_plain (fun _ _ => rfl)
  rw [World.setRow_alloc_new]
  obtain ⟨w3, hw3, HH3, HL3', hz3⟩ := box_row w2 184 144 (gridV (hitB L R))
  have e3 : w2.heap.size + 1 = w3.heap.size := by rw [hw3]; simp
  rw [← hw3, e3]
  clear hw3 e3
  have HP3 := hide ((unhide HP2).below (unhide HL3'))
  have HR3 := hide ((unhide HR2).below (unhide HL3'))
  have HL3 : Hid (Below w.heap.size w w3) := (unhide HL2).trans ((unhide HL3').mono (by omega))
  clear HP2 HR2 HL2 HL3'
  go_wp2_with fail
  rw [zero145]
  obtain ⟨w4, hw4, HC4, HL4', hz4⟩ := box_row w3 145 12 (numV (fun _ => 0))
  rw [← hw4]
  clear hw4
  have HP4 := hide ((unhide HP3).below (unhide HL4'))
  have HR4 := hide ((unhide HR3).below (unhide HL4'))
  have HH4 := hide ((unhide HH3).below (unhide HL4'))
  have HL4 : Hid (Below w.heap.size w w4) := (unhide HL3).trans ((unhide HL4').mono (by omega))
  clear HP3 HR3 HH3 HL3 HL4'
  go_loopw [7] (fun i' wr => ∃ k : Nat, k ≤ R ∧ i' = .int .i64 k ∧ Hid (Rowd wr w3.heap.size 145 12 (numV (colTo (hitB L R) k))) ∧ Hid (Rowd wr w2.heap.size 184 144 (gridV (hitB L R))) ∧ Hid (ProgB wr w.heap.size P R V (.slice ao L.length cap)) ∧ Hid (Rowd wr (w.heap.size + 1 + 1) 145 12 (numV (fun _ => 0))) ∧ Hid (Below w.heap.size w wr)) (fun i' _ => R - (intOf i').toNat)
  case atStart => exact ⟨0, by omega, rfl, unhide HC4, unhide HH4, unhide HP4, unhide HR4, unhide HL4⟩
  case round =>
    clear HC4 HH4 HP4 HR4 HL4
    obtain ⟨k, hk, rfl, HC, HG, HP, HR, HL⟩ := hrel
    have p1 := (unhide HP).c1
    by_cases hlt : k < R
    case neg =>
      have hkR : k = R := by omega
      have HC' : Hid (Rowd wr w3.heap.size 145 12 (numV (colB L R))) := by rw [hkR] at HC; exact unhide HC
      clear HC
      iterate 60 (first | (refine wpList_load_row rfl 145 _ rfl w3.heap.size rfl 145 _ (0, 0) _ (unhide HC') Tryd.underlying145 rfl (by rw [rowA_size]; exact Tryd.size145) ?_; refine wpList_store_row rfl 145 _ _ rfl (w.heap.size + 1 + 1) (rowA 12 (numV (colB L R))) rfl rfl 145 _ (unhide HR) (by rw [rowA_size]; exact Tryd.size145) (by rw [rowA_size, rowA_size]) (rowA_plain (fun _ _ => rfl)) ?_; clear HC') | go_values | go_skip | go_guarded | go_step | skip)
      go_wp2_with fail
      refine bodyPost_ret (results_cell_row rfl _ _ (w.heap.size + 1 + 1) 145 _ (0, 0) _ rfl (setRow_heap wr (w.heap.size + 1 + 1) _ _ 145 _ (unhide HR)) Tryd.underlying145 rfl (by rw [rowA_size]; exact Tryd.size145)) rfl ?_
      exact ⟨rfl, below_setRow (unhide HL) (by omega) _⟩
    have hki : (k : Int) < 12 := by omega
    obtain ⟨w5, hw5, HT5, HL5', hz5⟩ := box_row wr 105 12 (setV (fun _ => false))
    have HW5 := hide hw5
    have HC5 := hide ((unhide HC).below (unhide HL5'))
    have HG5 := hide ((unhide HG).below (unhide HL5'))
    have HP5 := hide ((unhide HP).below (unhide HL5'))
    have HR5 := hide ((unhide HR).below (unhide HL5'))
    have HL5 : Hid (Below w.heap.size w w5) := (unhide HL).trans ((unhide HL5').mono (unhide HL).size)
    have hlC := (unhide HC).lt
    have hlG := (unhide HG).lt
    clear hw5 HC HG HR HL5' 
    go_wp2_with fail
    rw [zero105, ← unhide HW5]
    clear p1 HP HL HW5
    obtain ⟨wo, rfl⟩ : ∃ wo, wo = wr := ⟨_, rfl⟩
    go_loopw [9] (fun i' wr => ∃ s : Nat, s ≤ k ∧ i' = .int .i64 s ∧ Hid (Rowd wr wo.heap.size 105 12 (setV (takenB (hitB L R) (colTo (hitB L R) k) k s))) ∧ Hid (Rowd wr w3.heap.size 145 12 (numV (colTo (hitB L R) k))) ∧ Hid (Rowd wr w2.heap.size 184 144 (gridV (hitB L R))) ∧ Hid (ProgB wr w.heap.size P R V (.slice ao L.length cap)) ∧ Hid (Rowd wr (w.heap.size + 1 + 1) 145 12 (numV (fun _ => 0))) ∧ Hid (Below w.heap.size w wr)) (fun i' _ => k - (intOf i').toNat)
    case atStart => exact ⟨0, by omega, rfl, unhide HT5, unhide HC5, unhide HG5, unhide HP5, unhide HR5, unhide HL5⟩
    case round =>
      clear HT5 HC5 HG5 HP5 HR5 HL5
      obtain ⟨s, hs, rfl, HT, HC, HG, HP, HR, HL⟩ := hrel
      by_cases hls : s < k
      · have hsi : (s : Int) < 12 := by omega
        have g := gcell (unhide HG) (i := k) (r := s) (by omega) (by omega)
        obtain ⟨t, ht⟩ : ∃ t, t = hitB L R k s := ⟨_, rfl⟩
        rw [← ht] at g
        have HTT := hide ht
        clear ht
        cases t
        · go_wp2_with fail
          go_roundw
          case rel => exact ⟨s + 1, by omega, by go_num, (unhide HT).congr (fun o ho => by show Value.bool (takenB _ _ k s o) = Value.bool (takenB _ _ k s o || (hitB L R k s && _)); rw [← unhide HTT]; simp), unhide HC, unhide HG, unhide HP, unhide HR, unhide HL⟩
          case measure => simp [intOf]; omega
        · have cs := num_cell (unhide HC) (r := s) (by omega)
          have hcs : colTo (hitB L R) k s ≤ s := unhide HCO k (by omega) s hls
          obtain ⟨q, hq⟩ : ∃ q, q = colTo (hitB L R) k s := ⟨_, rfl⟩
          rw [← hq] at cs hcs
          have HQ := hide hq
          have hqi : (q : Int) < 12 := by omega
          have hf : ∀ o, wr.frozen? ⟨wo.heap.size, o, none⟩ = false := (unhide HT).free
          obtain ⟨old, hold⟩ : ∃ v, wr.cell? ⟨wo.heap.size, q, none⟩ = some v := ⟨_, (unhide HT).cell (by omega)⟩
          clear hq
          go_wp2_with fail
          go_roundw
          case rel =>
            have hset := (unhide HT).set q (.bool true)
            refine ⟨s + 1, by omega, by go_num, hset.congr (fun o ho => ?_), (unhide HC).of_block (heap_setCell_other _ _ _ _ (show w3.heap.size ≠ wo.heap.size by omega)), (unhide HG).of_block (heap_setCell_other _ _ _ _ (show w2.heap.size ≠ wo.heap.size by omega)), (heap_setCell_other _ _ _ _ (show w.heap.size ≠ wo.heap.size by omega)).trans (unhide HP), (unhide HR).of_block (heap_setCell_other _ _ _ _ (show w.heap.size + 1 + 1 ≠ wo.heap.size by omega)), (unhide HL).setCell (p := ⟨wo.heap.size, q, none⟩) (show w.heap.size ≤ wo.heap.size by omega) _⟩
            unfold setV
            show (if o = q then Value.bool true else Value.bool (takenB _ _ k s o)) = Value.bool (takenB _ _ k s o || (hitB L R k s && o == colTo (hitB L R) k s))
            rw [← unhide HTT, ← unhide HQ, Bool.true_and]
            by_cases e : o = q
            · rw [if_pos e, e]; simp
            · rw [if_neg e, show (o == q) = false by rw [beq_eq_false_iff_ne]; exact e, Bool.or_false]
          case measure => simp [intOf]; omega
      · have hsk : s = k := by omega
        have HT' : Hid (Rowd wr wo.heap.size 105 12 (setV (takenB (hitB L R) (colTo (hitB L R) k) k k))) := by rw [hsk] at HT; exact unhide HT
        have KF := hide (first_any (takenB (hitB L R) (colTo (hitB L R) k) k k) wr)
        clear HT
        iterate 60 (first | (refine wpList_load_row rfl 105 _ rfl wo.heap.size rfl 105 _ (0, 0) _ (unhide HT') Tryd.underlying105 rfl (by rw [rowA_size]; exact Tryd.size105) ?_; clear HT') | go_values | go_skip | go_guarded | go_step | skip)
        refine (unhide KF).mono ?_
        rintro e w6 ⟨rfl, hb6⟩
        have HC6 := hide ((unhide HC).below hb6)
        have HG6 := hide ((unhide HG).below hb6)
        have HP6 := hide ((unhide HP).below hb6)
        have HR6 := hide ((unhide HR).below hb6)
        have HL6 : Hid (Below w.heap.size w w6) := (unhide HL).trans (hb6.mono (unhide HL).size)
        have hf : ∀ o, w6.frozen? ⟨w3.heap.size, o, none⟩ = false := (unhide HC6).free
        obtain ⟨old, hold⟩ : ∃ v, w6.cell? ⟨w3.heap.size, k, none⟩ = some v := ⟨_, (unhide HC6).cell (by omega)⟩
        clear hb6 HC HG HP HR HL KF
        go_wp2_with fail
        go_roundw
        case rel =>
          have hset := (unhide HC6).set k (.int .i64 (firstF (takenB (hitB L R) (colTo (hitB L R) k) k k)))
          refine ⟨k + 1, by omega, by go_num, hset.congr (fun o ho => ?_), (unhide HG6).of_block (heap_setCell_other _ _ _ _ (show w2.heap.size ≠ w3.heap.size by omega)), (heap_setCell_other _ _ _ _ (show w.heap.size ≠ w3.heap.size by omega)).trans (unhide HP6), (unhide HR6).of_block (heap_setCell_other _ _ _ _ (show w.heap.size + 1 + 1 ≠ w3.heap.size by omega)), (unhide HL6).setCell (p := ⟨w3.heap.size, k, none⟩) (show w.heap.size ≤ w3.heap.size by omega) _⟩
          unfold numV
          show (if o = k then _ else _) = Value.int .i64 ((if o = k then _ else _ : Nat) : Int)
          by_cases e : o = k
          · rw [if_pos e, if_pos e]
          · rw [if_neg e, if_neg e]
        case measure => simp [intOf]; omega
end Go.Proofs.YtoepcplbpochpaaDoor
