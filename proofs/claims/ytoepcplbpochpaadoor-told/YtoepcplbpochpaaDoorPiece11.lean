/-
  The first colour that is free, how many colours there are, how many slots: lodge.firstFree, lodge.countColours, lodge.countSlots.
-/
import Derived.Test.YtoepcplbpochpaaDoorPiece5
import Derived.Deep.CutRange
import Derived.Laws.BytesArg
import Derived.Test.YtoepcplbpochpaaDoorRows
import Derived.Test.YtoepcplbpochpaaDoorPiece1
import Derived.WalkKit
import Derived.WalkSpells
import Derived.WalkLawsBesides

namespace Go.Proofs.YtoepcplbpochpaaDoor
open Go.RowKit

set_option maxRecDepth 100000 in
set_option maxHeartbeats 4000000 in
theorem first_any (t : Nat → Bool) (w : World) : Calls Tryd.prog 125 #[.agg (rowA 12 (setV t))] w fun e w' => e = .returned (.int .i64 (firstF t)) ∧ Below w.heap.size w w' := by
  obtain ⟨w1, hw1, HC1, HL1, hz1⟩ := box_row w 105 12 (setV t)
  have HW := hide hw1
  have HF := hide (show ∀ n, n < 11 → ffFrom t n (11 - n) = if t n = true then ffFrom t (n + 1) (11 - (n + 1)) else n from fun n hn => by
    obtain ⟨m, hm⟩ : ∃ m, 11 - n = m + 1 := ⟨10 - n, by omega⟩
    rw [hm, show 11 - (n + 1) = m by omega]; rfl)
  clear hw1
  go_enter Tryd.func125, Tryd.ntmps125
  go_wp2_with fail
  rw [← unhide HW]
  go_wp2_with fail
  go_loop [3] (fun i' => ∃ n : Nat, n ≤ 11 ∧ i' = .int .i64 n ∧ Hid (ffFrom t n (11 - n) = firstF t)) (fun i' => 11 - (intOf i').toNat)
  case atStart => exact ⟨0, by omega, rfl, rfl⟩
  case round =>
    obtain ⟨n, hn, rfl, HN⟩ := hrel
    by_cases hlt : n < 11
    case neg =>
      obtain rfl : n = 11 := by omega
      go_wp2_with fail
      go_ret
      exact ⟨ret_int (by have := unhide HN; rw [← this]; rfl), unhide HL1⟩
    have c := (unhide HC1).cell (show n < 12 by omega)
    have hni : (n : Int) < 11 := by omega
    unfold setV at c
    obtain ⟨b, hb⟩ : ∃ b, b = t n := ⟨_, rfl⟩
    rw [← hb] at c
    have HB := hide hb
    clear hb
    cases b
    · go_wp2_with fail
      go_ret
      exact ⟨ret_int (by have := unhide HN; rw [← this, unhide HF n hlt, if_neg (by rw [← unhide HB]; decide)]), unhide HL1⟩
    · go_wp2_with fail
      go_round
      case rel => exact ⟨n + 1, by omega, by go_num, by have h := unhide HN; rw [unhide HF n hlt, if_pos (unhide HB).symm] at h; exact h⟩
      case measure => simp [intOf]; omega

/-- The head of a function that takes a program and a row. -/
theorem open_pr (w : World) (P R V : Int) (sl : Value) (n T : Nat) (c : Nat → Value) : ∃ w1, w1 = (w.alloc (.cells #[.int .i64 P, .int .i64 R, .int .i64 V, sl] 24)).alloc (.cells (rowA n c) T) ∧
    Hid (ProgB w1 w.heap.size P R V sl) ∧ Hid (Rowd w1 (w.heap.size + 1) T n c) ∧ Hid (Below w.heap.size w w1) := by
  refine ⟨_, rfl, ?_, two_new _ _ _, ?_⟩
  · exact (progb_alloc w P R V sl).below (below_alloc _ _)
  · exact (below_alloc _ _).alloc (by simp) _

set_option maxRecDepth 100000 in
set_option maxHeartbeats 4000000 in
theorem count_any (P V : Int) (R : Nat) (sl : Value) (c : Nat → Nat) (hR : R ≤ 12) (hc : ∀ r, c r ≤ 12) (w : World) :
    Calls Tryd.prog 97 #[.agg #[.int .i64 P, .int .i64 R, .int .i64 V, sl], .agg (rowA 12 (numV c))] w fun e w' => e = .returned (.int .i64 (cntTo c R)) ∧ Below w.heap.size w w' := by
  obtain ⟨w1, hw1, HP1, HC1, HL1⟩ := open_pr w P R V sl 12 145 (numV c)
  have HW := hide hw1
  have p1 := (unhide HP1).c1
  have HS := hide (show ∀ k, cntTo c (k + 1) = if cntTo c k ≤ c k then c k + 1 else cntTo c k from fun _ => rfl)
  clear hw1
  go_enter Tryd.func97, Tryd.ntmps97
  go_wp2_with fail
  rw [← unhide HW]
  go_wp2_with fail
  go_loop [5, 6] (fun s i' => ∃ k : Nat, k ≤ R ∧ i' = .int .i64 k ∧ ∃ m : Nat, s = .int .i64 m ∧ Hid (m = cntTo c k) ∧ m ≤ 13) (fun _ i' => R - (intOf i').toNat)
  case atStart => exact ⟨0, by omega, rfl, 0, rfl, rfl, by omega⟩
  case round =>
    obtain ⟨k, hk, rfl, m, rfl, HM, hm⟩ := hrel
    by_cases hlt : k < R
    case neg =>
      have hkR : k = R := by omega
      go_wp2_with fail
      go_ret
      exact ⟨ret_int (by rw [unhide HM, hkR]), unhide HL1⟩
    have hki : (k : Int) < 12 := by omega
    have cc := (unhide HC1).cell (show k < 12 by omega)
    unfold numV at cc
    have hck := hc k
    obtain ⟨d, hd⟩ : ∃ d, d = c k := ⟨_, rfl⟩
    rw [← hd] at cc hck
    have HD := hide hd
    clear hd
    by_cases hg : m ≤ d
    · go_wp2_with fail
      go_round
      case rel => exact ⟨k + 1, by omega, by go_num, d + 1, by go_num, hide (by rw [unhide HS, ← unhide HM, ← unhide HD, if_pos hg]), by omega⟩
      case measure => simp [intOf]; omega
    · go_wp2_with fail
      go_round
      case rel => exact ⟨k + 1, by omega, by go_num, m, rfl, hide (by rw [unhide HS, ← unhide HM, ← unhide HD, if_neg hg]), hm⟩
      case measure => simp [intOf]; omega

/-- Twelve homes. -/
def homV (hs : Nat → Bool) (ha : Nat → Nat) : Nat → Value := fun o => if o % 2 = 0 then .bool (hs (o / 2)) else .int .i64 (ha (o / 2))
theorem hom_s {w : World} {B T n : Nat} {hs : Nat → Bool} {ha : Nat → Nat} (h : Rowd w B T n (homV hs ha)) {r : Nat} (hr : r * 2 < n) : w.cell? ⟨B, r * 2, none⟩ = some (.bool (hs r)) := by
  rw [h.cell hr]; unfold homV; rw [if_pos (by omega), show r * 2 / 2 = r by omega]
theorem hom_a {w : World} {B T n : Nat} {hs : Nat → Bool} {ha : Nat → Nat} (h : Rowd w B T n (homV hs ha)) {r : Nat} (hr : r * 2 + 1 < n) : w.cell? ⟨B, r * 2 + 1, none⟩ = some (.int .i64 (ha r)) := by
  rw [h.cell hr]; unfold homV; rw [if_neg (by omega), show (r * 2 + 1) / 2 = r by omega]

set_option maxRecDepth 100000 in
set_option maxHeartbeats 4000000 in
theorem slots_any (V : Int) (P R : Nat) (sl : Value) (hs : Nat → Bool) (ha : Nat → Nat) (hR : R ≤ 12) (hP : P ≤ R) (w : World) :
    Calls Tryd.prog 72 #[.agg #[.int .i64 P, .int .i64 R, .int .i64 V, sl], .agg (rowA 24 (homV hs ha))] w fun e w' => e = .returned (.int .i64 (slTo hs P (R - P))) ∧ Below w.heap.size w w' := by
  obtain ⟨w1, hw1, HP1, HC1, HL1⟩ := open_pr w P R V sl 24 113 (homV hs ha)
  have HW := hide hw1
  have p0 := (unhide HP1).c0
  have p1 := (unhide HP1).c1
  have HS := hide (show ∀ m, slTo hs P (m + 1) = if hs (P + m) = true then P + m + 1 else slTo hs P m from fun _ => rfl)
  clear hw1
  go_enter Tryd.func72, Tryd.ntmps72
  go_wp2_with fail
  rw [← unhide HW]
  go_wp2_with fail
  go_loop [5, 6] (fun s i' => ∃ k : Nat, P ≤ k ∧ k ≤ R ∧ i' = .int .i64 k ∧ ∃ m : Nat, s = .int .i64 m ∧ Hid (m = slTo hs P (k - P)) ∧ m ≤ 13) (fun _ i' => R - (intOf i').toNat)
  case atStart => exact ⟨P, by omega, hP, rfl, P, rfl, hide (by rw [Nat.sub_self]; rfl), by omega⟩
  case round =>
    obtain ⟨k, hPk, hk, rfl, m, rfl, HM, hm⟩ := hrel
    by_cases hlt : k < R
    case neg =>
      have hkR : k = R := by omega
      go_wp2_with fail
      go_ret
      exact ⟨ret_int (by rw [unhide HM, hkR]), unhide HL1⟩
    have hki : (k : Int) < 12 := by omega
    have cc := hom_s (unhide HC1) (r := k) (by omega)
    have HS' := hide (unhide HS (k - P))
    rw [show P + (k - P) = k by omega, show k - P + 1 = k + 1 - P by omega] at HS'
    obtain ⟨d, hd⟩ : ∃ d, d = hs k := ⟨_, rfl⟩
    rw [← hd] at cc HS'
    clear hd
    cases d
    · go_wp2_with fail
      go_round
      case rel => exact ⟨k + 1, by omega, by omega, by go_num, m, rfl, hide (by rw [unhide HS', if_neg (by decide)]; exact unhide HM), hm⟩
      case measure => simp [intOf]; omega
    · go_wp2_with fail
      go_round
      case rel => exact ⟨k + 1, by omega, by omega, by go_num, k + 1, by go_num, hide (by rw [unhide HS', if_pos rfl]), by omega⟩
      case measure => simp [intOf]; omega
end Go.Proofs.YtoepcplbpochpaaDoor

/-
  The colours: lodge.findColours.
-/
namespace Go.Proofs.YtoepcplbpochpaaDoor
open Go.RowKit

theorem zero145 : (#[.int .i64 0, .int .i64 0, .int .i64 0, .int .i64 0, .int .i64 0, .int .i64 0, .int .i64 0, .int .i64 0, .int .i64 0, .int .i64 0, .int .i64 0, .int .i64 0] : Array Value) = rowA 12 (numV (fun _ => 0)) := by kernel_rfl
theorem Tryd.size145 : (Tryd.prog.info? 145).map (·.size) = some 12 := by kernel_rfl
theorem zero105 : (#[.bool false, .bool false, .bool false, .bool false, .bool false, .bool false, .bool false, .bool false, .bool false, .bool false, .bool false, .bool false] : Array Value) = rowA 12 (setV (fun _ => false)) := by kernel_rfl
theorem num_cell {w : World} {B T n : Nat} {c : Nat → Nat} (h : Rowd w B T n (numV c)) {r : Nat} (hr : r < n) : w.cell? ⟨B, r, none⟩ = some (.int .i64 (c r)) := h.cell hr

set_option maxRecDepth 100000 in
set_option maxHeartbeats 4000000 in
theorem colours_any (P V : Int) (R : Nat) (L : List In4) (ao : Option Addr) (cap : Nat) (w : World) (hH : HeldIns w ao L) (hR : R ≤ 12) (hn1 : 1 ≤ L.length) (hn : L.length ≤ 40)
    (hd : ∀ i, i < L.length → isWr (inAt L i).op = true → 0 ≤ (inAt L i).d ∧ (inAt L i).d < 12 ∧ i + 1 < L.length) :
    Calls Tryd.prog 96 #[.agg #[.int .i64 P, .int .i64 R, .int .i64 V, .slice ao L.length cap], .agg (rowA 480 (gridV (liveB L)))] w fun e w' => e = .returned (.agg (rowA 12 (numV (colB L R)))) ∧ Below w.heap.size w w' := by
  have KC := hide (fun w (hH : HeldIns w ao L) => collide_any P V R L ao cap w hH hR hn1 hn hd)
  have HH := hide hH
  have HCO := hide (fun k (hk : k ≤ 12) r (hr : r < k) => (colTo_le (hitB L R) k hk r hr).1)
  clear hH hd
  go_enter Tryd.func96, Tryd.ntmps96
  go_upto_region 1 with fail
  obtain ⟨w1, hw1, HP1, HV1, HR1, HL1, hz1⟩ := open_pl w P R V (.slice ao L.length cap) 480 12 145 (gridV (liveB L)) (numV (fun _ => 0))
  rw [zero145, ← hw1]
  clear hw1
  have p0 := (unhide HP1).c0
  have p1 := (unhide HP1).c1
  have p2 := (unhide HP1).c2
  have p3 := (unhide HP1).c3
  have KC' := hide (unhide KC w1 ((unhide HH).below (unhide HL1)))
  iterate 60 (first | (refine wpList_load_row rfl 108 _ rfl (w.heap.size + 1) rfl 108 _ (0, 0) _ (unhide HV1) Tryd.underlying108 rfl (by rw [rowA_size]; exact Tryd.size108) ?_; clear HV1) | go_values | go_skip | go_guarded | go_step | skip)
  refine (unhide KC').mono ?_
  rintro e w2 ⟨rfl, hb2⟩
  have HP2 := hide ((unhide HP1).below hb2)
  have HR2 := hide ((unhide HR1).below hb2)
  have HL2 : Hid (Below w.heap.size w w2) := (unhide HL1).trans (hb2.mono (unhide HL1).size)
  have hz2 : w.heap.size + 1 + 1 < w2.heap.size := Nat.lt_of_lt_of_le hz1 hb2.size
  clear hb2 p0 p1 p2 p3 KC' HP1 HR1 HL1
  go_wp2_with (refine wpList_store_row ?h1 184 ?h2 ?h3 ?h4 w2.heap.size ?h5 ?h6 ?h7 ?h8 ?h9 ?h10 ?h11 ?h12 ?h13 ?h14; case h4 => rfl)
  case h1 => rfl
  case h6 => rfl
  case h7 => rfl
  case h10 => exact heap_alloc_new _ _
  case h11 => rw [rowA_size]; exact Tryd.size184
  case h12 => rw [rowA_size, zero184, rowA_size]
  case h13 => exact rowA_plain (fun _ _ => rfl)
  rw [World.setRow_alloc_new]
  obtain ⟨w3, hw3, HH3, HL3', hz3⟩ := box_row w2 184 144 (gridV (hitB L R))
  have e3 : w2.heap.size + 1 = w3.heap.size := by rw [hw3]; simp
  rw [← hw3, e3]
  clear hw3 e3
  have HP3 := hide ((unhide HP2).below (unhide HL3'))
  have HR3 := hide ((unhide HR2).below (unhide HL3'))
  have HL3 : Hid (Below w.heap.size w w3) := (unhide HL2).trans ((unhide HL3').mono (by omega))
  clear HP2 HR2 HL2 HL3'
  go_wp2_with fail
  rw [zero145]
  obtain ⟨w4, hw4, HC4, HL4', hz4⟩ := box_row w3 145 12 (numV (fun _ => 0))
  rw [← hw4]
  clear hw4
  have HP4 := hide ((unhide HP3).below (unhide HL4'))
  have HR4 := hide ((unhide HR3).below (unhide HL4'))
  have HH4 := hide ((unhide HH3).below (unhide HL4'))
  have HL4 : Hid (Below w.heap.size w w4) := (unhide HL3).trans ((unhide HL4').mono (by omega))
  clear HP3 HR3 HH3 HL3 HL4'
  go_loopw [7] (fun i' wr => ∃ k : Nat, k ≤ R ∧ i' = .int .i64 k ∧ Hid (Rowd wr w3.heap.size 145 12 (numV (colTo (hitB L R) k))) ∧ Hid (Rowd wr w2.heap.size 184 144 (gridV (hitB L R))) ∧ Hid (ProgB wr w.heap.size P R V (.slice ao L.length cap)) ∧ Hid (Rowd wr (w.heap.size + 1 + 1) 145 12 (numV (fun _ => 0))) ∧ Hid (Below w.heap.size w wr)) (fun i' _ => R - (intOf i').toNat)
  case atStart => exact ⟨0, by omega, rfl, unhide HC4, unhide HH4, unhide HP4, unhide HR4, unhide HL4⟩
  case round =>
    clear HC4 HH4 HP4 HR4 HL4
    obtain ⟨k, hk, rfl, HC, HG, HP, HR, HL⟩ := hrel
    have p1 := (unhide HP).c1
    by_cases hlt : k < R
    case neg =>
      have hkR : k = R := by omega
      have HC' : Hid (Rowd wr w3.heap.size 145 12 (numV (colB L R))) := by rw [hkR] at HC; exact unhide HC
      clear HC
      iterate 60 (first | (refine wpList_load_row rfl 145 _ rfl w3.heap.size rfl 145 _ (0, 0) _ (unhide HC') Tryd.underlying145 rfl (by rw [rowA_size]; exact Tryd.size145) ?_; refine wpList_store_row rfl 145 _ _ rfl (w.heap.size + 1 + 1) (rowA 12 (numV (colB L R))) rfl rfl 145 _ (unhide HR) (by rw [rowA_size]; exact Tryd.size145) (by rw [rowA_size, rowA_size]) (rowA_plain (fun _ _ => rfl)) ?_; clear HC') | go_values | go_skip | go_guarded | go_step | skip)
      go_wp2_with fail
      refine bodyPost_ret (results_cell_row rfl _ _ (w.heap.size + 1 + 1) 145 _ (0, 0) _ rfl (setRow_heap wr (w.heap.size + 1 + 1) _ _ 145 _ (unhide HR)) Tryd.underlying145 rfl (by rw [rowA_size]; exact Tryd.size145)) rfl ?_
      exact ⟨rfl, below_setRow (unhide HL) (by omega) _⟩
    have hki : (k : Int) < 12 := by omega
    obtain ⟨w5, hw5, HT5, HL5', hz5⟩ := box_row wr 105 12 (setV (fun _ => false))
    have HW5 := hide hw5
    have HC5 := hide ((unhide HC).below (unhide HL5'))
    have HG5 := hide ((unhide HG).below (unhide HL5'))
    have HP5 := hide ((unhide HP).below (unhide HL5'))
    have HR5 := hide ((unhide HR).below (unhide HL5'))
    have HL5 : Hid (Below w.heap.size w w5) := (unhide HL).trans ((unhide HL5').mono (unhide HL).size)
    have hlC := (unhide HC).lt
    have hlG := (unhide HG).lt
    clear hw5 HC HG HR HL5' 
    go_wp2_with fail
    rw [zero105, ← unhide HW5]
    clear p1 HP HL HW5
    obtain ⟨wo, rfl⟩ : ∃ wo, wo = wr := ⟨_, rfl⟩
    go_loopw [9] (fun i' wr => ∃ s : Nat, s ≤ k ∧ i' = .int .i64 s ∧ Hid (Rowd wr wo.heap.size 105 12 (setV (takenB (hitB L R) (colTo (hitB L R) k) k s))) ∧ Hid (Rowd wr w3.heap.size 145 12 (numV (colTo (hitB L R) k))) ∧ Hid (Rowd wr w2.heap.size 184 144 (gridV (hitB L R))) ∧ Hid (ProgB wr w.heap.size P R V (.slice ao L.length cap)) ∧ Hid (Rowd wr (w.heap.size + 1 + 1) 145 12 (numV (fun _ => 0))) ∧ Hid (Below w.heap.size w wr)) (fun i' _ => k - (intOf i').toNat)
    case atStart => exact ⟨0, by omega, rfl, unhide HT5, unhide HC5, unhide HG5, unhide HP5, unhide HR5, unhide HL5⟩
    case round =>
      clear HT5 HC5 HG5 HP5 HR5 HL5
      obtain ⟨s, hs, rfl, HT, HC, HG, HP, HR, HL⟩ := hrel
      by_cases hls : s < k
      · have hsi : (s : Int) < 12 := by omega
        have g := gcell (unhide HG) (i := k) (r := s) (by omega) (by omega)
        obtain ⟨t, ht⟩ : ∃ t, t = hitB L R k s := ⟨_, rfl⟩
        rw [← ht] at g
        have HTT := hide ht
        clear ht
        cases t
        · go_wp2_with fail
          go_roundw
          case rel => exact ⟨s + 1, by omega, by go_num, (unhide HT).congr (fun o ho => by show Value.bool (takenB _ _ k s o) = Value.bool (takenB _ _ k s o || (hitB L R k s && _)); rw [← unhide HTT]; simp), unhide HC, unhide HG, unhide HP, unhide HR, unhide HL⟩
          case measure => simp [intOf]; omega
        · have cs := num_cell (unhide HC) (r := s) (by omega)
          have hcs : colTo (hitB L R) k s ≤ s := unhide HCO k (by omega) s hls
          obtain ⟨q, hq⟩ : ∃ q, q = colTo (hitB L R) k s := ⟨_, rfl⟩
          rw [← hq] at cs hcs
          have HQ := hide hq
          have hqi : (q : Int) < 12 := by omega
          have hf : ∀ o, wr.frozen? ⟨wo.heap.size, o, none⟩ = false := (unhide HT).free
          obtain ⟨old, hold⟩ : ∃ v, wr.cell? ⟨wo.heap.size, q, none⟩ = some v := ⟨_, (unhide HT).cell (by omega)⟩
          clear hq
          go_wp2_with fail
          go_roundw
          case rel =>
            have hset := (unhide HT).set q (.bool true)
            refine ⟨s + 1, by omega, by go_num, hset.congr (fun o ho => ?_), (unhide HC).of_block (heap_setCell_other _ _ _ _ (show w3.heap.size ≠ wo.heap.size by omega)), (unhide HG).of_block (heap_setCell_other _ _ _ _ (show w2.heap.size ≠ wo.heap.size by omega)), (heap_setCell_other _ _ _ _ (show w.heap.size ≠ wo.heap.size by omega)).trans (unhide HP), (unhide HR).of_block (heap_setCell_other _ _ _ _ (show w.heap.size + 1 + 1 ≠ wo.heap.size by omega)), (unhide HL).setCell (p := ⟨wo.heap.size, q, none⟩) (show w.heap.size ≤ wo.heap.size by omega) _⟩
            unfold setV
            show (if o = q then Value.bool true else Value.bool (takenB _ _ k s o)) = Value.bool (takenB _ _ k s o || (hitB L R k s && o == colTo (hitB L R) k s))
            rw [← unhide HTT, ← unhide HQ, Bool.true_and]
            by_cases e : o = q
            · rw [if_pos e, e]; simp
            · rw [if_neg e, show (o == q) = false by rw [beq_eq_false_iff_ne]; exact e, Bool.or_false]
          case measure => simp [intOf]; omega
      · have hsk : s = k := by omega
        have HT' : Hid (Rowd wr wo.heap.size 105 12 (setV (takenB (hitB L R) (colTo (hitB L R) k) k k))) := by rw [hsk] at HT; exact unhide HT
        have KF := hide (first_any (takenB (hitB L R) (colTo (hitB L R) k) k k) wr)
        clear HT
        iterate 60 (first | (refine wpList_load_row rfl 105 _ rfl wo.heap.size rfl 105 _ (0, 0) _ (unhide HT') Tryd.underlying105 rfl (by rw [rowA_size]; exact Tryd.size105) ?_; clear HT') | go_values | go_skip | go_guarded | go_step | skip)
        refine (unhide KF).mono ?_
        rintro e w6 ⟨rfl, hb6⟩
        have HC6 := hide ((unhide HC).below hb6)
        have HG6 := hide ((unhide HG).below hb6)
        have HP6 := hide ((unhide HP).below hb6)
        have HR6 := hide ((unhide HR).below hb6)
        have HL6 : Hid (Below w.heap.size w w6) := (unhide HL).trans (hb6.mono (unhide HL).size)
        have hf : ∀ o, w6.frozen? ⟨w3.heap.size, o, none⟩ = false := (unhide HC6).free
        obtain ⟨old, hold⟩ : ∃ v, w6.cell? ⟨w3.heap.size, k, none⟩ = some v := ⟨_, (unhide HC6).cell (by omega)⟩
        clear hb6 HC HG HP HR HL KF
        go_wp2_with fail
        go_roundw
        case rel =>
          have hset := (unhide HC6).set k (.int .i64 (firstF (takenB (hitB L R) (colTo (hitB L R) k) k k)))
          refine ⟨k + 1, by omega, by go_num, hset.congr (fun o ho => ?_), (unhide HG6).of_block (heap_setCell_other _ _ _ _ (show w2.heap.size ≠ w3.heap.size by omega)), (heap_setCell_other _ _ _ _ (show w.heap.size ≠ w3.heap.size by omega)).trans (unhide HP6), (unhide HR6).of_block (heap_setCell_other _ _ _ _ (show w.heap.size + 1 + 1 ≠ w3.heap.size by omega)), (unhide HL6).setCell (p := ⟨w3.heap.size, k, none⟩) (show w.heap.size ≤ w3.heap.size by omega) _⟩
          unfold numV
          show (if o = k then _ else _) = Value.int .i64 ((if o = k then _ else _ : Nat) : Int)
          by_cases e : o = k
          · rw [if_pos e, if_pos e]
          · rw [if_neg e, if_neg e]
        case measure => simp [intOf]; omega
end Go.Proofs.YtoepcplbpochpaaDoor

/-
  The homes: lodge.findHomes.
-/
namespace Go.Proofs.YtoepcplbpochpaaDoor
open Go.RowKit

theorem Tryd.size113 : (Tryd.prog.info? 113).map (·.size) = some 24 := by kernel_rfl
theorem zero113 : (#[.bool false, .int .i64 0, .bool false, .int .i64 0, .bool false, .int .i64 0, .bool false, .int .i64 0, .bool false, .int .i64 0, .bool false, .int .i64 0, .bool false, .int .i64 0, .bool false, .int .i64 0, .bool false, .int .i64 0, .bool false, .int .i64 0, .bool false, .int .i64 0, .bool false, .int .i64 0] : Array Value) = rowA 24 (homV (fun _ => false) (fun _ => 0)) := by kernel_rfl
theorem homV_plain (hs : Nat → Bool) (ha : Nat → Nat) : ∀ i, i < 24 → (homV hs ha i).oneCell' = true := fun i _ => by unfold homV; split <;> rfl
theorem hom_set {w : World} {B T n : Nat} {hs hs' : Nat → Bool} {ha ha' : Nat → Nat} (h : Rowd w B T n (homV hs ha)) {r : Nat} {b : Bool} {a : Nat} (h1 : ∀ q, hs' q = if q = r then b else hs q) (h2 : ∀ q, ha' q = if q = r then a else ha q) :
    Rowd ((w.setCell ⟨B, r * 2, none⟩ (.bool b)).setCell ⟨B, r * 2 + 1, none⟩ (.int .i64 a)) B T n (homV hs' ha') := by
  refine ((h.set (r * 2) (.bool b)).set (r * 2 + 1) (.int .i64 a)).congr (fun o ho => ?_)
  unfold homV
  rw [h1, h2]
  by_cases e1 : o = r * 2 + 1
  · subst e1; rw [if_pos rfl, if_neg (by omega), if_pos (by omega)]
  rw [if_neg e1]
  by_cases e2 : o = r * 2
  · subst e2; rw [if_pos rfl, if_pos (by omega), if_pos (by omega)]
  rw [if_neg e2]
  by_cases e3 : o % 2 = 0
  · rw [if_pos e3, if_pos e3, if_neg (by omega)]
  · rw [if_neg e3, if_neg e3, if_neg (by omega)]
/-- The homes of the first k registers. -/
def hsTo (L : List In4) (R K k : Nat) : Nat → Bool := fun r => if r < k then homS L R K r else false
def haTo (L : List In4) (R K k : Nat) : Nat → Nat := fun r => if r < k then homA L R K r else 0
theorem hsTo_step (L : List In4) (R K k : Nat) (q : Nat) : hsTo L R K (k + 1) q = if q = k then homS L R K k else hsTo L R K k q := by
  unfold hsTo
  by_cases e : q = k
  · subst e; rw [if_pos (by omega), if_pos rfl]
  · rw [if_neg e]
    by_cases h : q < k
    · rw [if_pos h, if_pos (by omega)]
    · rw [if_neg h, if_neg (by omega)]
theorem haTo_step (L : List In4) (R K k : Nat) (q : Nat) : haTo L R K (k + 1) q = if q = k then homA L R K k else haTo L R K k q := by
  unfold haTo
  by_cases e : q = k
  · subst e; rw [if_pos (by omega), if_pos rfl]
  · rw [if_neg e]
    by_cases h : q < k
    · rw [if_pos h, if_pos (by omega)]
    · rw [if_neg h, if_neg (by omega)]
theorem hsTo_all (L : List In4) (R K : Nat) : hsTo L R K R = homS L R K := by
  funext r; unfold hsTo homS
  by_cases h : r < R
  · rw [if_pos h]
  · rw [if_neg h, decide_eq_false h, Bool.false_and]
theorem haTo_all (L : List In4) (R K : Nat) : haTo L R K R = homA L R K := by
  funext r; unfold haTo
  by_cases h : r < R
  · rw [if_pos h]
  · rw [if_neg h]; unfold homA homS; rw [decide_eq_false h, Bool.false_and, if_neg (by decide)]; exact (colTo_past _ _ _ (by omega)).symm

set_option maxRecDepth 100000 in
set_option maxHeartbeats 4000000 in
theorem homes_any (P V : Int) (R K : Nat) (L : List In4) (ao : Option Addr) (cap : Nat) (w : World) (hH : HeldIns w ao L) (hR : R ≤ 12) (hK : 2 ≤ K) (hK' : K ≤ 16) (hn1 : 1 ≤ L.length) (hn : L.length ≤ 40)
    (hd : ∀ i, i < L.length → isWr (inAt L i).op = true → 0 ≤ (inAt L i).d ∧ (inAt L i).d < 12 ∧ i + 1 < L.length) :
    Calls Tryd.prog 68 #[.agg #[.int .i64 P, .int .i64 R, .int .i64 V, .slice ao L.length cap], .agg (rowA 480 (gridV (liveB L))), .int .i64 K] w fun e w' => e = .returned (.agg (rowA 24 (homV (homS L R K) (homA L R K)))) ∧ Below w.heap.size w w' := by
  have KC := hide (fun w (hH : HeldIns w ao L) => colours_any P V R L ao cap w hH hR hn1 hn hd)
  have HH := hide hH
  have HCO : Hid (∀ r, colB L R r ≤ 12) := fun r => by
    rcases Nat.lt_or_ge r R with h | h
    · exact Nat.le_trans (colTo_le (hitB L R) R hR r h).1 (by omega)
    · unfold colB; rw [colTo_past _ _ _ h]; omega
  have KN := hide (fun w => count_any P V R (.slice ao L.length cap) (colB L R) hR (unhide HCO) w)
  clear hH hd
  go_enter Tryd.func68, Tryd.ntmps68
  go_upto_region 1 with fail
  obtain ⟨w1, hw1, HP1, HV1, HR1, HL1, hz1⟩ := open_pl w P R V (.slice ao L.length cap) 480 24 113 (gridV (liveB L)) (homV (fun _ => false) (fun _ => 0))
  rw [zero113, ← hw1]
  clear hw1
  have p0 := (unhide HP1).c0
  have p1 := (unhide HP1).c1
  have p2 := (unhide HP1).c2
  have p3 := (unhide HP1).c3
  have KC' := hide (unhide KC w1 ((unhide HH).below (unhide HL1)))
  iterate 60 (first | (refine wpList_load_row rfl 108 _ rfl (w.heap.size + 1) rfl 108 _ (0, 0) _ (unhide HV1) Tryd.underlying108 rfl (by rw [rowA_size]; exact Tryd.size108) ?_; clear HV1) | go_values | go_skip | go_guarded | go_step | skip)
  refine (unhide KC').mono ?_
  rintro e w2 ⟨rfl, hb2⟩
  have HP2 := hide ((unhide HP1).below hb2)
  have HR2 := hide ((unhide HR1).below hb2)
  have HL2 : Hid (Below w.heap.size w w2) := (unhide HL1).trans (hb2.mono (unhide HL1).size)
  have hz2 : w.heap.size + 1 + 1 < w2.heap.size := Nat.lt_of_lt_of_le hz1 hb2.size
  clear hb2 p0 p1 p2 p3 KC' HP1 HR1 HL1
  obtain ⟨w3, hw3, HC3, HL3', hz3⟩ := box_row w2 145 12 (numV (colB L R))
  have HW3 := hide hw3
  have HP3 := hide ((unhide HP2).below (unhide HL3'))
  have HR3 := hide ((unhide HR2).below (unhide HL3'))
  have HL3 : Hid (Below w.heap.size w w3) := (unhide HL2).trans ((unhide HL3').mono (by omega))
  clear hw3 HP2 HR2 HL2 HL3'
  go_upto_region 3 with (refine wpList_store_row ?h1 145 ?h2 ?h3 ?h4 w2.heap.size ?h5 ?h6 ?h7 ?h8 ?h9 ?h10 ?h11 ?h12 ?h13 ?h14; case h4 => rfl)
  case h1 => rfl
  case h6 => rfl
  case h7 => rfl
  case h10 => exact heap_alloc_new _ _
  case h11 => rw [rowA_size]; exact Tryd.size145
  case h12 => rw [rowA_size]; rfl
  case h13 => exact rowA_plain (fun _ _ => rfl)
  rw [World.setRow_alloc_new, ← unhide HW3]
  have p0 := (unhide HP3).c0
  have p1 := (unhide HP3).c1
  have p2 := (unhide HP3).c2
  have p3 := (unhide HP3).c3
  have KN' := hide (unhide KN w3)
  have HCr := HC3
  iterate 60 (first | (refine wpList_load_row rfl 145 _ rfl w2.heap.size rfl 145 _ (0, 0) _ (unhide HCr) Tryd.underlying145 rfl (by rw [rowA_size]; exact Tryd.size145) ?_; clear HCr) | go_values | go_skip | go_guarded | go_step | skip)
  refine (unhide KN').mono ?_
  rintro e w4 ⟨rfl, hb4⟩
  have HP4 := hide ((unhide HP3).below hb4)
  have HR4 := hide ((unhide HR3).below hb4)
  have HC4 := hide ((unhide HC3).below hb4)
  have HL4 : Hid (Below w.heap.size w w4) := (unhide HL3).trans (hb4.mono (unhide HL3).size)
  have hz4 : w2.heap.size < w4.heap.size := (unhide HC4).lt
  obtain ⟨cn, hcn⟩ : ∃ cn, cn = cntTo (colB L R) R := ⟨_, rfl⟩
  have HKP := hide (show keptB L R K = if K < cn then K - 2 else K by rw [hcn]; rfl)
  rw [← hcn]
  clear hb4 p0 p1 p2 p3 KN' HP3 HR3 HL3 HC3 hcn HW3
  obtain ⟨kp, hkp⟩ : ∃ kp, kp = keptB L R K := ⟨_, rfl⟩
  have HKE := hide hkp
  rw [← hkp] at HKP
  clear hkp
  go_upto_if 19 with fail
  go_cut [8] from 20 to 21 (fun v wc => v = .int .i64 kp ∧ wc = w4)
  case first =>
    by_cases hc : K < cn
    · have hk2 : kp = K - 2 := by rw [unhide HKP, if_pos hc]
      have hk3 : (K : Int) - 2 = ((kp : Nat) : Int) := by omega
      go_wp2_with fail
      go_meet
      case rel => exact ⟨by go_num, rfl⟩
    · have hk2 : kp = K := by rw [unhide HKP, if_neg hc]
      go_wp2_with fail
      go_meet
      case rel => exact ⟨by rw [hk2], rfl⟩
  case rest =>
  obtain ⟨rfl, rfl⟩ := hcut
  obtain ⟨w5, hw5, HH5, HL5', hz5⟩ := box_row wc 113 24 (homV (fun _ => false) (fun _ => 0))
  have HW5 := hide hw5
  have HP5 := hide ((unhide HP4).below (unhide HL5'))
  have HR5 := hide ((unhide HR4).below (unhide HL5'))
  have HC5 := hide ((unhide HC4).below (unhide HL5'))
  have HL5 : Hid (Below w.heap.size w w5) := (unhide HL4).trans ((unhide HL5').mono (unhide HL4).size)
  have HZZ := hide (World.setRow_alloc_new wc (#[.bool false, .int .i64 0, .bool false, .int .i64 0, .bool false, .int .i64 0, .bool false, .int .i64 0, .bool false, .int .i64 0, .bool false, .int .i64 0, .bool false, .int .i64 0, .bool false, .int .i64 0, .bool false, .int .i64 0, .bool false, .int .i64 0, .bool false, .int .i64 0, .bool false, .int .i64 0] : Array Value) #[.bool false, .int .i64 0, .bool false, .int .i64 0, .bool false, .int .i64 0, .bool false, .int .i64 0, .bool false, .int .i64 0, .bool false, .int .i64 0, .bool false, .int .i64 0, .bool false, .int .i64 0, .bool false, .int .i64 0, .bool false, .int .i64 0, .bool false, .int .i64 0, .bool false, .int .i64 0] 113)
  clear hw5 HP4 HR4 HC4 HL4 HL5'
  iterate 60 (first | (refine wpList_store_row rfl 113 _ _ rfl wc.heap.size (#[.bool false, .int .i64 0, .bool false, .int .i64 0, .bool false, .int .i64 0, .bool false, .int .i64 0, .bool false, .int .i64 0, .bool false, .int .i64 0, .bool false, .int .i64 0, .bool false, .int .i64 0, .bool false, .int .i64 0, .bool false, .int .i64 0, .bool false, .int .i64 0, .bool false, .int .i64 0]) rfl rfl 113 (#[.bool false, .int .i64 0, .bool false, .int .i64 0, .bool false, .int .i64 0, .bool false, .int .i64 0, .bool false, .int .i64 0, .bool false, .int .i64 0, .bool false, .int .i64 0, .bool false, .int .i64 0, .bool false, .int .i64 0, .bool false, .int .i64 0, .bool false, .int .i64 0, .bool false, .int .i64 0]) (heap_alloc_new _ _) Tryd.size113 rfl (by kernel_rfl) ?_; rw [unhide HZZ, zero113, ← unhide HW5]; clear HZZ) | go_values | go_skip | go_guarded | go_step | skip)
  go_loopw [10] (fun i' wr => ∃ k : Nat, k ≤ R ∧ i' = .int .i64 k ∧ Hid (Rowd wr wc.heap.size 113 24 (homV (hsTo L R K k) (haTo L R K k))) ∧ Hid (Rowd wr w2.heap.size 145 12 (numV (colB L R))) ∧ Hid (ProgB wr w.heap.size P R V (.slice ao L.length cap)) ∧ Hid (Rowd wr (w.heap.size + 1 + 1) 113 24 (homV (fun _ => false) (fun _ => 0))) ∧ Hid (Below w.heap.size w wr)) (fun i' _ => R - (intOf i').toNat)
  case atStart => exact ⟨0, by omega, rfl, unhide HH5, unhide HC5, unhide HP5, unhide HR5, unhide HL5⟩
  case round =>
    clear HH5 HC5 HP5 HR5 HL5 HW5
    obtain ⟨k, hk, rfl, HH, HC, HP, HR, HL⟩ := hrel
    have p1 := (unhide HP).c1
    by_cases hlt : k < R
    case neg =>
      have hkR : k = R := by omega
      have HH' : Hid (Rowd wr wc.heap.size 113 24 (homV (homS L R K) (homA L R K))) := by rw [hkR, hsTo_all, haTo_all] at HH; exact unhide HH
      clear HH
      iterate 60 (first | (refine wpList_load_row rfl 113 _ rfl wc.heap.size rfl 113 _ (0, 0) _ (unhide HH') Tryd.underlying113 rfl (by rw [rowA_size]; exact Tryd.size113) ?_; refine wpList_store_row rfl 113 _ _ rfl (w.heap.size + 1 + 1) (rowA 24 (homV (homS L R K) (homA L R K))) rfl rfl 113 _ (unhide HR) (by rw [rowA_size]; exact Tryd.size113) (by rw [rowA_size, rowA_size]) (rowA_plain (homV_plain _ _)) ?_; clear HH') | go_values | go_skip | go_guarded | go_step | skip)
      go_wp2_with fail
      refine bodyPost_ret (results_cell_row rfl _ _ (w.heap.size + 1 + 1) 113 _ (0, 0) _ rfl (setRow_heap wr (w.heap.size + 1 + 1) _ _ 113 _ (unhide HR)) Tryd.underlying113 rfl (by rw [rowA_size]; exact Tryd.size113)) rfl ?_
      exact ⟨rfl, below_setRow (unhide HL) (by omega) _⟩
    have hki : (k : Int) < 12 := by omega
    have cc := num_cell (unhide HC) (r := k) (by omega)
    have hck := unhide HCO k
    obtain ⟨q, hq⟩ : ∃ q, q = colB L R k := ⟨_, rfl⟩
    rw [← hq] at cc hck
    have HQ := hide hq
    have hf : ∀ o, wr.frozen? ⟨wc.heap.size, o, none⟩ = false := (unhide HH).free
    obtain ⟨o1, ho1⟩ : ∃ v, wr.cell? ⟨wc.heap.size, k * 2, none⟩ = some v := ⟨_, (unhide HH).cell (by omega)⟩
    obtain ⟨o2, ho2⟩ : ∃ v, wr.cell? ⟨wc.heap.size, k * 2 + 1, none⟩ = some v := ⟨_, (unhide HH).cell (by omega)⟩
    obtain ⟨w6, hw6⟩ : ∃ w6, w6 = (wr.setCell ⟨wc.heap.size, k * 2, none⟩ (.bool false)).setCell ⟨wc.heap.size, k * 2 + 1, none⟩ (.int .i64 q) := ⟨_, rfl⟩
    have HW6 := hide hw6
    have HH6 : Hid (Rowd w6 wc.heap.size 113 24 (homV (fun r => if r = k then false else hsTo L R K k r) (fun r => if r = k then q else haTo L R K k r))) := by
      rw [hw6]; exact hom_set (unhide HH) (fun _ => rfl) (fun _ => rfl)
    have HC6 : Hid (Rowd w6 w2.heap.size 145 12 (numV (colB L R))) := by rw [hw6]; exact ((unhide HC).of_block (heap_setCell_other _ _ _ _ (show w2.heap.size ≠ wc.heap.size by omega))).of_block (heap_setCell_other _ _ _ _ (show w2.heap.size ≠ wc.heap.size by omega))
    have HP6 : Hid (ProgB w6 w.heap.size P R V (.slice ao L.length cap)) := by rw [hw6]; exact (heap_setCell_other _ _ _ _ (show w.heap.size ≠ wc.heap.size by omega)).trans ((heap_setCell_other _ _ _ _ (show w.heap.size ≠ wc.heap.size by omega)).trans (unhide HP))
    have HR6 : Hid (Rowd w6 (w.heap.size + 1 + 1) 113 24 (homV (fun _ => false) (fun _ => 0))) := by rw [hw6]; exact ((unhide HR).of_block (heap_setCell_other _ _ _ _ (show w.heap.size + 1 + 1 ≠ wc.heap.size by omega))).of_block (heap_setCell_other _ _ _ _ (show w.heap.size + 1 + 1 ≠ wc.heap.size by omega))
    have HL6 : Hid (Below w.heap.size w w6) := by rw [hw6]; exact ((unhide HL).setCell (p := ⟨wc.heap.size, k * 2, none⟩) (show w.heap.size ≤ wc.heap.size by omega) _).setCell (p := ⟨wc.heap.size, k * 2 + 1, none⟩) (show w.heap.size ≤ wc.heap.size by omega) _
    clear hq hw6
    go_upto_region 10 with fail
    rw [← unhide HW6]
    clear cc hf ho1 ho2 p1 HH HC HP HR HL
    have cc := num_cell (unhide HC6) (r := k) (by omega)
    rw [← unhide HQ] at cc
    by_cases hg : kp ≤ q
    · have hf : ∀ o, w6.frozen? ⟨wc.heap.size, o, none⟩ = false := (unhide HH6).free
      obtain ⟨o3, ho3⟩ : ∃ v, w6.cell? ⟨wc.heap.size, k * 2, none⟩ = some v := ⟨_, (unhide HH6).cell (by omega)⟩
      obtain ⟨o4, ho4⟩ : ∃ v, w6.cell? ⟨wc.heap.size, k * 2 + 1, none⟩ = some v := ⟨_, (unhide HH6).cell (by omega)⟩
      have HS : Hid (homS L R K k = true ∧ homA L R K k = k) := by
        have h1 : homS L R K k = true := by unfold homS; rw [decide_eq_true hlt, Bool.true_and]; exact decide_eq_true (by rw [← unhide HKE, ← unhide HQ]; exact hg)
        exact ⟨h1, by unfold homA; rw [if_pos h1]⟩
      go_wp2_with fail
      go_roundw
      case rel =>
        refine ⟨k + 1, by omega, by go_num, hom_set (unhide HH6) (r := k) (fun r => ?_) (fun r => ?_), ((unhide HC6).of_block (heap_setCell_other _ _ _ _ (show w2.heap.size ≠ wc.heap.size by omega))).of_block (heap_setCell_other _ _ _ _ (show w2.heap.size ≠ wc.heap.size by omega)), (heap_setCell_other _ _ _ _ (show w.heap.size ≠ wc.heap.size by omega)).trans ((heap_setCell_other _ _ _ _ (show w.heap.size ≠ wc.heap.size by omega)).trans (unhide HP6)), ((unhide HR6).of_block (heap_setCell_other _ _ _ _ (show w.heap.size + 1 + 1 ≠ wc.heap.size by omega))).of_block (heap_setCell_other _ _ _ _ (show w.heap.size + 1 + 1 ≠ wc.heap.size by omega)), ((unhide HL6).setCell (p := ⟨wc.heap.size, k * 2, none⟩) (show w.heap.size ≤ wc.heap.size by omega) _).setCell (p := ⟨wc.heap.size, k * 2 + 1, none⟩) (show w.heap.size ≤ wc.heap.size by omega) _⟩
        · rw [hsTo_step, (unhide HS).1]; split <;> rfl
        · rw [haTo_step, (unhide HS).2]; split <;> rfl
      case measure => simp [intOf]; omega
    · have HS : Hid (homS L R K k = false ∧ homA L R K k = q) := by
        have h1 : homS L R K k = false := by unfold homS; rw [decide_eq_true hlt, Bool.true_and]; exact decide_eq_false (by rw [← unhide HKE, ← unhide HQ]; exact hg)
        exact ⟨h1, by unfold homA; rw [if_neg (by rw [h1]; decide)]; exact (unhide HQ).symm⟩
      go_wp2_with fail
      go_roundw
      case rel =>
        refine ⟨k + 1, by omega, by go_num, (unhide HH6).congr (fun o ho => ?_), unhide HC6, unhide HP6, unhide HR6, unhide HL6⟩
        unfold homV
        rw [hsTo_step, haTo_step, (unhide HS).1, (unhide HS).2]
      case measure => simp [intOf]; omega
end Go.Proofs.YtoepcplbpochpaaDoor

/-
  Plain mathematics of numbers as bytes: what a number's bytes are, and what number stands at the head of a list of bytes. No Go here.
-/
namespace Go.Proofs.YtoepcplbpochpaaDoor

/-- The bytes of a number, lowest seven bits first. -/
def encI (n : Int) : List Int :=
  if n < 128 then [n] else if n < 16384 then [n % 128 + 128, n / 128] else [n % 128 + 128, n / 128 % 128 + 128, n / 16384]

theorem enc_one {n : Int} (h : n < 128) : encI n = [n] := by unfold encI; rw [if_pos h]
theorem enc_two {n : Int} (h : ¬ n < 128) (h' : n < 16384) : encI n = [n % 128 + 128, n / 128] := by unfold encI; rw [if_neg h, if_pos h']
theorem enc_three {n : Int} (h' : ¬ n < 16384) : encI n = [n % 128 + 128, n / 128 % 128 + 128, n / 16384] := by unfold encI; rw [if_neg (by omega), if_neg h']

theorem enc_step {n : Int} (h : 128 ≤ n) (h' : n ≤ 2097151) : encI n = (n % 128 + 128) :: encI (n / 128) := by
  by_cases a : n < 16384
  · rw [enc_two (by omega) a, enc_one (by omega)]
  · rw [enc_three a, enc_two (by omega) (by omega)]
    congr 3
    omega

/-- The string of a number. -/
def numS (n : Int) : ByteArray := strOfNums (encI n)

/-- The third byte of a number. -/
def get3 (u : Int) : List UInt8 → Option (Int × Nat)
  | [] => none
  | c :: _ => if (c.toNat : Int) < 128 then (if (c.toNat : Int) = 0 then none else some (u + (c.toNat : Int) * 16384, 3)) else none
/-- The second byte of a number. -/
def get2 (u : Int) : List UInt8 → Option (Int × Nat)
  | [] => none
  | b :: r => if (b.toNat : Int) < 128 then (if (b.toNat : Int) = 0 then none else some (u + (b.toNat : Int) * 128, 2)) else get3 (u + (b.toNat : Int) % 128 * 128) r
/-- The number that stands at the head of a list of bytes, and how many bytes it takes. -/
def getL : List UInt8 → Option (Int × Nat)
  | [] => none
  | a :: r => if (a.toNat : Int) < 128 then some ((a.toNat : Int), 1) else get2 ((a.toNat : Int) % 128) r

theorem drop_nil {s : ByteArray} {k : Nat} (h : s.size ≤ k) : s.data.toList.drop k = [] := List.drop_of_length_le (by simpa using h)
theorem drop_cons {s : ByteArray} {k : Nat} (h : k < s.size) : s.data.toList.drop k = s[k] :: s.data.toList.drop (k + 1) := by
  rw [List.drop_eq_getElem_cons (by simpa using h)]; rfl

/-- What Get answers at a place within int's nought and more. -/
def getR (s : ByteArray) (i : Int) : Value :=
  if i < 0 then .tuple #[.int .i64 0, .int .i64 0, .int .i64 14] else
  match getL (s.data.toList.drop i.toNat) with
  | none => .tuple #[.int .i64 0, .int .i64 0, .int .i64 14]
  | some (v, k) => .tuple #[.int .i64 v, .int .i64 (i + k), .int .i64 0]

theorem getR_neg {s : ByteArray} {i : Int} (h : i < 0) : getR s i = .tuple #[.int .i64 0, .int .i64 0, .int .i64 14] := by unfold getR; rw [if_pos h]
theorem getR_none {s : ByteArray} {k : Nat} (h : getL (s.data.toList.drop k) = none) : getR s k = .tuple #[.int .i64 0, .int .i64 0, .int .i64 14] := by
  unfold getR; rw [if_neg (by omega), Int.toNat_natCast, h]
theorem getR_some {s : ByteArray} {k : Nat} {v : Int} {j : Nat} (h : getL (s.data.toList.drop k) = some (v, j)) : getR s k = .tuple #[.int .i64 v, .int .i64 (k + j), .int .i64 0] := by
  unfold getR; rw [if_neg (by omega), Int.toNat_natCast, h]

theorem getL_cons (a : UInt8) (r : List UInt8) : getL (a :: r) = if (a.toNat : Int) < 128 then some ((a.toNat : Int), 1) else get2 ((a.toNat : Int) % 128) r := rfl
theorem get2_cons (u : Int) (b : UInt8) (r : List UInt8) : get2 u (b :: r) = if (b.toNat : Int) < 128 then (if (b.toNat : Int) = 0 then none else some (u + (b.toNat : Int) * 128, 2)) else get3 (u + (b.toNat : Int) % 128 * 128) r := rfl
theorem get3_cons (u : Int) (c : UInt8) (r : List UInt8) : get3 u (c :: r) = if (c.toNat : Int) < 128 then (if (c.toNat : Int) = 0 then none else some (u + (c.toNat : Int) * 16384, 3)) else none := rfl
theorem get2_nil (u : Int) : get2 u [] = none := rfl
theorem get3_nil (u : Int) : get3 u [] = none := rfl
theorem getL_nil : getL [] = none := rfl
theorem getL_a {a : UInt8} (r : List UInt8) (h : (a.toNat : Int) < 128) : getL (a :: r) = some ((a.toNat : Int), 1) := by rw [getL_cons, if_pos h]
theorem getL_a_end {a : UInt8} (h : ¬ (a.toNat : Int) < 128) : getL [a] = none := by rw [getL_cons, if_neg h, get2_nil]
theorem getL_b_zero {a b : UInt8} (r : List UInt8) (h : ¬ (a.toNat : Int) < 128) (h' : (b.toNat : Int) = 0) : getL (a :: b :: r) = none := by
  rw [getL_cons, if_neg h, get2_cons, if_pos (by omega), if_pos h']
theorem getL_b {a b : UInt8} (r : List UInt8) (h : ¬ (a.toNat : Int) < 128) (h1 : (b.toNat : Int) < 128) (h' : ¬ (b.toNat : Int) = 0) : getL (a :: b :: r) = some ((a.toNat : Int) % 128 + (b.toNat : Int) * 128, 2) := by
  rw [getL_cons, if_neg h, get2_cons, if_pos h1, if_neg h']
theorem getL_b_end {a b : UInt8} (h : ¬ (a.toNat : Int) < 128) (h1 : ¬ (b.toNat : Int) < 128) : getL [a, b] = none := by
  rw [getL_cons, if_neg h, get2_cons, if_neg h1, get3_nil]
theorem getL_c_zero {a b c : UInt8} (r : List UInt8) (h : ¬ (a.toNat : Int) < 128) (h1 : ¬ (b.toNat : Int) < 128) (h' : (c.toNat : Int) = 0) : getL (a :: b :: c :: r) = none := by
  rw [getL_cons, if_neg h, get2_cons, if_neg h1, get3_cons, if_pos (by omega), if_pos h']
theorem getL_c {a b c : UInt8} (r : List UInt8) (h : ¬ (a.toNat : Int) < 128) (h1 : ¬ (b.toNat : Int) < 128) (h2 : (c.toNat : Int) < 128) (h' : ¬ (c.toNat : Int) = 0) :
    getL (a :: b :: c :: r) = some ((a.toNat : Int) % 128 + (b.toNat : Int) % 128 * 128 + (c.toNat : Int) * 16384, 3) := by
  rw [getL_cons, if_neg h, get2_cons, if_neg h1, get3_cons, if_pos h2, if_neg h']
theorem getL_c_no {a b c : UInt8} (r : List UInt8) (h : ¬ (a.toNat : Int) < 128) (h1 : ¬ (b.toNat : Int) < 128) (h2 : ¬ (c.toNat : Int) < 128) : getL (a :: b :: c :: r) = none := by
  rw [getL_cons, if_neg h, get2_cons, if_neg h1, get3_cons, if_neg h2]

section
variable {s : ByteArray} {k : Nat}
theorem drop_two (h : k + 1 < s.size) : s.data.toList.drop k = s[k] :: s[k + 1] :: s.data.toList.drop (k + 1 + 1) := by
  rw [drop_cons (by omega), drop_cons h]
theorem drop_three (h : k + 1 + 1 < s.size) : s.data.toList.drop k = s[k] :: s[k + 1] :: s[k + 1 + 1] :: s.data.toList.drop (k + 1 + 1 + 1) := by
  rw [drop_two (by omega), drop_cons h]
theorem get_out (h : s.size ≤ k) : getL (s.data.toList.drop k) = none := (congrArg getL (drop_nil h)).trans rfl
theorem get_a (h : k < s.size) (a : ((s[k]).toNat : Int) < 128) : getL (s.data.toList.drop k) = some (((s[k]).toNat : Int), 1) :=
  (congrArg getL (drop_cons h)).trans (getL_a _ a)
theorem get_a_end (h : k < s.size) (a : ¬ ((s[k]).toNat : Int) < 128) (h' : s.size ≤ k + 1) : getL (s.data.toList.drop k) = none :=
  (congrArg getL ((drop_cons h).trans (congrArg _ (drop_nil h')))).trans (getL_a_end a)
theorem get_b_zero (h : k + 1 < s.size) (a : ¬ ((s[k]).toNat : Int) < 128) (b : ((s[k + 1]).toNat : Int) = 0) : getL (s.data.toList.drop k) = none :=
  (congrArg getL (drop_two h)).trans (getL_b_zero _ a b)
theorem get_b (h : k + 1 < s.size) (a : ¬ ((s[k]).toNat : Int) < 128) (b : ((s[k + 1]).toNat : Int) < 128) (b' : ¬ ((s[k + 1]).toNat : Int) = 0) :
    getL (s.data.toList.drop k) = some (((s[k]).toNat : Int) % 128 + ((s[k + 1]).toNat : Int) * 128, 2) :=
  (congrArg getL (drop_two h)).trans (getL_b _ a b b')
theorem get_b_end (h : k + 1 < s.size) (a : ¬ ((s[k]).toNat : Int) < 128) (b : ¬ ((s[k + 1]).toNat : Int) < 128) (h' : s.size ≤ k + 1 + 1) : getL (s.data.toList.drop k) = none :=
  (congrArg getL ((drop_two h).trans (congrArg _ (congrArg _ (drop_nil h'))))).trans (getL_b_end a b)
theorem get_c_zero (h : k + 1 + 1 < s.size) (a : ¬ ((s[k]).toNat : Int) < 128) (b : ¬ ((s[k + 1]).toNat : Int) < 128) (c : ((s[k + 1 + 1]).toNat : Int) = 0) : getL (s.data.toList.drop k) = none :=
  (congrArg getL (drop_three h)).trans (getL_c_zero _ a b c)
theorem get_c (h : k + 1 + 1 < s.size) (a : ¬ ((s[k]).toNat : Int) < 128) (b : ¬ ((s[k + 1]).toNat : Int) < 128) (c : ((s[k + 1 + 1]).toNat : Int) < 128) (c' : ¬ ((s[k + 1 + 1]).toNat : Int) = 0) :
    getL (s.data.toList.drop k) = some (((s[k]).toNat : Int) % 128 + ((s[k + 1]).toNat : Int) % 128 * 128 + ((s[k + 1 + 1]).toNat : Int) * 16384, 3) :=
  (congrArg getL (drop_three h)).trans (getL_c _ a b c c')
theorem get_c_no (h : k + 1 + 1 < s.size) (a : ¬ ((s[k]).toNat : Int) < 128) (b : ¬ ((s[k + 1]).toNat : Int) < 128) (c : ¬ ((s[k + 1 + 1]).toNat : Int) < 128) : getL (s.data.toList.drop k) = none :=
  (congrArg getL (drop_three h)).trans (getL_c_no _ a b c)
end

end Go.Proofs.YtoepcplbpochpaaDoor

/-
  What lodgeref.Put answers, at every number.
-/
namespace Go.Proofs.YtoepcplbpochpaaDoor
open Go.RowKit

theorem Tryd.info5 : (Tryd.prog.info? 5).map (fun i => (i.zero, i.size, i.bytes)) = some (some (.int .u8 0), 1, 1) := by kernel_rfl

theorem own_ge {w : World} {base : Nat} {e : TypeId} {size n : Nat} {v : Value} {xs : List Value} (h : w.ownsRow base e size v n xs) : ∀ k, v.ownBlock = some k → base ≤ k := by
  intro k hk
  rcases h.2 with ⟨rfl, _⟩ | ⟨g, cap, cur, rfl, hg, _⟩
  · simp [Value.ownBlock] at hk
  · simp [Value.ownBlock] at hk; omega

/-- The string of a row of bytes that the call owns. -/
theorem run_own_string {w : World} {base n : Nat} {v : Value} {xs : List Int} (h : w.ownsRow base 5 1 v n (xs.map (Value.int .u8))) (hn : xs.length = n) :
    (convert 190 9 v).run Tryd.prog w = .ok (.string (strOfNums xs)) w := by
  rcases h.2 with ⟨rfl, h0⟩ | ⟨g, cap, cur, rfl, hg, hh⟩
  · have : xs = [] := List.length_eq_zero_iff.1 (by omega)
    subst this
    exact run_convert_bytes_nil w 190 5 Tryd.underlying190 Tryd.underlying5 0 0 9 Tryd.underlying9
  · refine run_convert_bytes_arg w 190 5 Tryd.underlying190 Tryd.underlying5 g 0 n cap xs hn (fun i hi => ?_) 9 Tryd.underlying9
    have := World.ownsRow.cellAt h i (by omega)
    rw [Nat.zero_add, this]
    simp [List.getD, List.getElem?_eq_getElem (show i < xs.length by omega)]

/-- What Put answers: the string and the error. -/
def putR (n : Int) : Value := if 0 ≤ n ∧ n ≤ 2097151 then .tuple #[.string (numS n), .int .i64 0] else .tuple #[.string ByteArray.empty, .int .i64 13]
theorem putR_yes {n : Int} (h0 : 0 ≤ n) (h1 : n ≤ 2097151) : putR n = .tuple #[.string (numS n), .int .i64 0] := by unfold putR; rw [if_pos ⟨h0, h1⟩]
theorem putR_no {n : Int} (h : ¬ (0 ≤ n ∧ n ≤ 2097151)) : putR n = .tuple #[.string ByteArray.empty, .int .i64 13] := by unfold putR; rw [if_neg h]

/-- The string of a slice of bytes that was just laid out. -/
theorem conv_new (w : World) (xs : List Int) : (convert 190 9 (.slice (some ⟨w.heap.size, 0, none⟩) xs.length xs.length)).run Tryd.prog (w.alloc (.cells (xs.map (Value.int .u8)).toArray 5)) =
    .ok (.string (strOfNums xs)) (w.alloc (.cells (xs.map (Value.int .u8)).toArray 5)) := by
  refine run_convert_bytes_arg _ 190 5 Tryd.underlying190 Tryd.underlying5 w.heap.size 0 xs.length xs.length xs rfl (fun i hi => ?_) 9 Tryd.underlying9
  rw [Nat.zero_add, World.cell?_alloc_at (hn := rfl)]
  simp [List.getD, List.getElem?_eq_getElem hi]
theorem conv1 (w : World) (a : Int) : (convert 190 9 (.slice (some ⟨w.heap.size, 0, none⟩) 1 1)).run Tryd.prog (w.alloc (.cells #[.int .u8 a] 5)) = .ok (.string (strOfNums [a])) (w.alloc (.cells #[.int .u8 a] 5)) := conv_new w [a]
theorem conv2 (w : World) (a b : Int) : (convert 190 9 (.slice (some ⟨w.heap.size, 0, none⟩) 2 2)).run Tryd.prog (w.alloc (.cells #[.int .u8 a, .int .u8 b] 5)) = .ok (.string (strOfNums [a, b])) (w.alloc (.cells #[.int .u8 a, .int .u8 b] 5)) := conv_new w [a, b]
theorem conv3 (w : World) (a b c : Int) : (convert 190 9 (.slice (some ⟨w.heap.size, 0, none⟩) 3 3)).run Tryd.prog (w.alloc (.cells #[.int .u8 a, .int .u8 b, .int .u8 c] 5)) = .ok (.string (strOfNums [a, b, c])) (w.alloc (.cells #[.int .u8 a, .int .u8 b, .int .u8 c] 5)) := conv_new w [a, b, c]

set_option maxHeartbeats 400000 in
theorem refput_any (n : Int) (w : World) :
    Calls Tryd.prog 117 #[.int .i64 n] w fun e w' => e = .returned (putR n) ∧ Below w.heap.size w w' := by
  by_cases h0 : 0 ≤ n
  · by_cases h1 : n ≤ 2097151
    · rw [putR_yes h0 h1]
      by_cases h2 : n < 128
      · have hc := conv1 w
        have e1 : numS n = strOfNums [n % 128] := by unfold numS; rw [enc_one h2]; congr 2; omega
        rw [e1]
        clear e1
        go_enter Tryd.func117, Tryd.ntmps117
        go_wp2
        go_ret2
        exact ⟨rfl, (Below.refl _ _).alloc (Nat.le_refl _) _⟩
      by_cases h3 : n < 16384
      · have hc := conv2 w
        have e1 : numS n = strOfNums [n % 128 + 128, n / 128 % 128] := by unfold numS; rw [enc_two h2 h3]; congr 3; omega
        rw [e1]
        clear e1
        go_enter Tryd.func117, Tryd.ntmps117
        go_wp2
        go_ret2
        exact ⟨rfl, (Below.refl _ _).alloc (Nat.le_refl _) _⟩
      · have hc := conv3 w
        have e1 : numS n = strOfNums [n % 128 + 128, n / 128 % 128 + 128, n / 16384] := by unfold numS; rw [enc_three h3]
        rw [e1]
        clear e1
        go_enter Tryd.func117, Tryd.ntmps117
        go_wp2
        go_ret2
        exact ⟨rfl, (Below.refl _ _).alloc (Nat.le_refl _) _⟩
    · rw [putR_no (by omega)]
      go_enter Tryd.func117, Tryd.ntmps117
      go_wp2
      go_ret2
      exact ⟨rfl, Below.refl _ _⟩
  · rw [putR_no (by omega)]
    go_enter Tryd.func117, Tryd.ntmps117
    go_wp2
    go_ret2
    exact ⟨rfl, Below.refl _ _⟩
end Go.Proofs.YtoepcplbpochpaaDoor
