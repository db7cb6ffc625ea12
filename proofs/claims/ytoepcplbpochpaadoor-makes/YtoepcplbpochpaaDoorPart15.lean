/-
  The colours: lodge.findColours.
-/
import Derived.Test.YtoepcplbpochpaaDoorPart14
import Derived.Deep.CutRange
import Derived.Test.YtoepcplbpochpaaDoorPart12
import Derived.BigQuiet
import Derived.Test.YtoepcplbpochpaaDoorPart7

namespace Go.Proofs.YtoepcplbpochpaaDoor
open Go.RowKit

theorem zero145 : (#[.int .i64 0, .int .i64 0, .int .i64 0, .int .i64 0, .int .i64 0, .int .i64 0, .int .i64 0, .int .i64 0, .int .i64 0, .int .i64 0, .int .i64 0, .int .i64 0] : Array Value) = rowA 12 (numV (fun _ => 0)) := by kernel_rfl
theorem Tryd.size145 : (Tryd.prog.info? 145).map (·.size) = some 12 := by kernel_rfl
theorem zero105 : (#[.bool false, .bool false, .bool false, .bool false, .bool false, .bool false, .bool false, .bool false, .bool false, .bool false, .bool false, .bool false] : Array Value) = rowA 12 (setV (fun _ => false)) := by kernel_rfl
theorem num_cell {w : World} {B T n : Nat} {c : Nat → Nat} (h : Rowd w B T n (numV c)) {r : Nat} (hr : r < n) : w.cell? ⟨B, r, none⟩ = some (.int .i64 (c r)) := h.cell hr

set_option maxRecDepth 100000 in
set_option maxHeartbeats 4000000 in
theorem colours_any (P V : Int) (R : Nat) (L : List In4) (ao : Option Addr) (cap : Nat) (w : World) (hH : HeldIns w ao L) (hR : R ≤ 12) (hn1 : 1 ≤ L.length) (hn : L.length ≤ 40)
    (hd : ∀ i, i < L.length → isWr (inAt L i).op = true → 0 ≤ (inAt L i).d ∧ (inAt L i).d < 12 ∧ i + 1 < L.length) :
    Calls Tryd.prog 96 #[.agg #[.int .i64 P, .int .i64 R, .int .i64 V, .slice ao L.length cap], .agg (rowA 480 (gridV (liveB L)))] w fun e w' => e = .returned (.agg (rowA 12 (numV (colB L R)))) ∧ Below w.heap.size w w' := by
  have KC := hide (fun w (hH : HeldIns w ao L) => collide_any P V R L ao cap w hH hR hn1 hn hd)
  have HH := hide hH
  have HCO := hide (fun k (hk : k ≤ 12) r (hr : r < k) => (colTo_le (hitB L R) k hk r hr).1)
  clear hH hd
  go_enter Tryd.func96, Tryd.ntmps96
  go_upto_region 1 with fail
  obtain ⟨w1, hw1, HP1, HV1, HR1, HL1, hz1⟩ := open_pl w P R V (.slice ao L.length cap) 480 12 145 (gridV (liveB L)) (numV (fun _ => 0))
  rw [zero145, ← hw1]
  clear hw1
  have p0 := (unhide HP1).c0
  have p1 := (unhide HP1).c1
  have p2 := (unhide HP1).c2
  have p3 := (unhide HP1).c3
  have KC' := hide (unhide KC w1 ((unhide HH).below (unhide HL1)))
  iterate 60 (first | (refine wpList_load_row rfl 108 _ rfl (w.heap.size + 1) rfl 108 _ (0, 0) _ (unhide HV1) Tryd.underlying108 rfl (by rw [rowA_size]; exact Tryd.size108) ?_; clear HV1) | go_values | go_skip | go_guarded | go_step | skip)
  refine (unhide KC').mono ?_
  rintro e w2 ⟨rfl, hb2⟩
  have HP2 := hide ((unhide HP1).below hb2)
  have HR2 := hide ((unhide HR1).below hb2)
  have HL2 : Hid (Below w.heap.size w w2) := (unhide HL1).trans (hb2.mono (unhide HL1).size)
  have hz2 : w.heap.size + 1 + 1 < w2.heap.size := Nat.lt_of_lt_of_le hz1 hb2.size
  clear hb2 p0 p1 p2 p3 KC' HP1 HR1 HL1
  go_wp2_with (refine wpList_store_row ?h1 184 ?h2 ?h3 ?h4 w2.heap.size ?h5 ?h6 ?h7 ?h8 ?h9 ?h10 ?h11 ?h12 ?h13 ?h14; case h4 => rfl)
  case h1 => rfl
  case h6 => rfl
  case h7 => rfl
  case h10 => exact heap_alloc_new _ _
  case h11 => rw [rowA_size]; exact Tryd.size184
  case h12 => rw [rowA_size, zero184, rowA_size]
  case h13 => exact rowA_plain (fun _ _ => rfl)
  rw [World.setRow_alloc_new]
  obtain ⟨w3, hw3, HH3, HL3', hz3⟩ := box_row w2 184 144 (gridV (hitB L R))
  have e3 : w2.heap.size + 1 = w3.heap.size := by rw [hw3]; simp
  rw [← hw3, e3]
  clear hw3 e3
  have HP3 := hide ((unhide HP2).below (unhide HL3'))
  have HR3 := hide ((unhide HR2).below (unhide HL3'))
  have HL3 : Hid (Below w.heap.size w w3) := (unhide HL2).trans ((unhide HL3').mono (by omega))
  clear HP2 HR2 HL2 HL3'
  go_wp2_with fail
  rw [zero145]
  obtain ⟨w4, hw4, HC4, HL4', hz4⟩ := box_row w3 145 12 (numV (fun _ => 0))
  rw [← hw4]
  clear hw4
  have HP4 := hide ((unhide HP3).below (unhide HL4'))
  have HR4 := hide ((unhide HR3).below (unhide HL4'))
  have HH4 := hide ((unhide HH3).below (unhide HL4'))
  have HL4 : Hid (Below w.heap.size w w4) := (unhide HL3).trans ((unhide HL4').mono (by omega))
  clear HP3 HR3 HH3 HL3 HL4'
  go_loopw [7] (fun i' wr => ∃ k : Nat, k ≤ R ∧ i' = .int .i64 k ∧ Hid (Rowd wr w3.heap.size 145 12 (numV (colTo (hitB L R) k))) ∧ Hid (Rowd wr w2.heap.size 184 144 (gridV (hitB L R))) ∧ Hid (ProgB wr w.heap.size P R V (.slice ao L.length cap)) ∧ Hid (Rowd wr (w.heap.size + 1 + 1) 145 12 (numV (fun _ => 0))) ∧ Hid (Below w.heap.size w wr)) (fun i' _ => R - (intOf i').toNat)
  case atStart => exact ⟨0, by omega, rfl, unhide HC4, unhide HH4, unhide HP4, unhide HR4, unhide HL4⟩
  case round =>
    clear HC4 HH4 HP4 HR4 HL4
    obtain ⟨k, hk, rfl, HC, HG, HP, HR, HL⟩ := hrel
    have p1 := (unhide HP).c1
    by_cases hlt : k < R
    case neg =>
      have hkR : k = R := by omega
      have HC' : Hid (Rowd wr w3.heap.size 145 12 (numV (colB L R))) := by rw [hkR] at HC; exact unhide HC
      clear HC
      iterate 60 (first | (refine wpList_load_row rfl 145 _ rfl w3.heap.size rfl 145 _ (0, 0) _ (unhide HC') Tryd.underlying145 rfl (by rw [rowA_size]; exact Tryd.size145) ?_; refine wpList_store_row rfl 145 _ _ rfl (w.heap.size + 1 + 1) (rowA 12 (numV (colB L R))) rfl rfl 145 _ (unhide HR) (by rw [rowA_size]; exact Tryd.size145) (by rw [rowA_size, rowA_size]) (rowA_plain (fun _ _ => rfl)) ?_; clear HC') | go_values | go_skip | go_guarded | go_step | skip)
      go_wp2_with fail
      refine bodyPost_ret (results_cell_row rfl _ _ (w.heap.size + 1 + 1) 145 _ (0, 0) _ rfl (setRow_heap wr (w.heap.size + 1 + 1) _ _ 145 _ (unhide HR)) Tryd.underlying145 rfl (by rw [rowA_size]; exact Tryd.size145)) rfl ?_
      exact ⟨rfl, below_setRow (unhide HL) (by omega) _⟩
    have hki : (k : Int) < 12 := by omega
    obtain ⟨w5, hw5, HT5, HL5', hz5⟩ := box_row wr 105 12 (setV (fun _ => false))
    have HW5 := hide hw5
    have HC5 := hide ((unhide HC).below (unhide HL5'))
    have HG5 := hide ((unhide HG).below (unhide HL5'))
    have HP5 := hide ((unhide HP).below (unhide HL5'))
    have HR5 := hide ((unhide HR).below (unhide HL5'))
    have HL5 : Hid (Below w.heap.size w w5) := (unhide HL).trans ((unhide HL5').mono (unhide HL).size)
    have hlC := (unhide HC).lt
    have hlG := (unhide HG).lt
    clear hw5 HC HG HR HL5' 
    go_wp2_with fail
    rw [zero105, ← unhide HW5]
    clear p1 HP HL HW5
    obtain ⟨wo, rfl⟩ : ∃ wo, wo = wr := ⟨_, rfl⟩
    go_loopw [9] (fun i' wr => ∃ s : Nat, s ≤ k ∧ i' = .int .i64 s ∧ Hid (Rowd wr wo.heap.size 105 12 (setV (takenB (hitB L R) (colTo (hitB L R) k) k s))) ∧ Hid (Rowd wr w3.heap.size 145 12 (numV (colTo (hitB L R) k))) ∧ Hid (Rowd wr w2.heap.size 184 144 (gridV (hitB L R))) ∧ Hid (ProgB wr w.heap.size P R V (.slice ao L.length cap)) ∧ Hid (Rowd wr (w.heap.size + 1 + 1) 145 12 (numV (fun _ => 0))) ∧ Hid (Below w.heap.size w wr)) (fun i' _ => k - (intOf i').toNat)
    case atStart => exact ⟨0, by omega, rfl, unhide HT5, unhide HC5, unhide HG5, unhide HP5, unhide HR5, unhide HL5⟩
    case round =>
      clear HT5 HC5 HG5 HP5 HR5 HL5
      obtain ⟨s, hs, rfl, HT, HC, HG, HP, HR, HL⟩ := hrel
      by_cases hls : s < k
      · have hsi : (s : Int) < 12 := by omega
        have g := gcell (unhide HG) (i := k) (r := s) (by omega) (by omega)
        obtain ⟨t, ht⟩ : ∃ t, t = hitB L R k s := ⟨_, rfl⟩
        rw [← ht] at g
        have HTT := hide ht
        clear ht
        cases t
        · go_wp2_with fail
          go_roundw
          case rel => exact ⟨s + 1, by omega, by go_num, (unhide HT).congr (fun o ho => by show Value.bool (takenB _ _ k s o) = Value.bool (takenB _ _ k s o || (hitB L R k s && _)); rw [← unhide HTT]; simp), unhide HC, unhide HG, unhide HP, unhide HR, unhide HL⟩
          case measure => simp [intOf]; omega
        · have cs := num_cell (unhide HC) (r := s) (by omega)
          have hcs : colTo (hitB L R) k s ≤ s := unhide HCO k (by omega) s hls
          obtain ⟨q, hq⟩ : ∃ q, q = colTo (hitB L R) k s := ⟨_, rfl⟩
          rw [← hq] at cs hcs
          have HQ := hide hq
          have hqi : (q : Int) < 12 := by omega
          have hf : ∀ o, wr.frozen? ⟨wo.heap.size, o, none⟩ = false := (unhide HT).free
          obtain ⟨old, hold⟩ : ∃ v, wr.cell? ⟨wo.heap.size, q, none⟩ = some v := ⟨_, (unhide HT).cell (by omega)⟩
          clear hq
          go_wp2_with fail
          go_roundw
          case rel =>
            have hset := (unhide HT).set q (.bool true)
            refine ⟨s + 1, by omega, by go_num, hset.congr (fun o ho => ?_), (unhide HC).of_block (heap_setCell_other _ _ _ _ (show w3.heap.size ≠ wo.heap.size by omega)), (unhide HG).of_block (heap_setCell_other _ _ _ _ (show w2.heap.size ≠ wo.heap.size by omega)), (heap_setCell_other _ _ _ _ (show w.heap.size ≠ wo.heap.size by omega)).trans (unhide HP), (unhide HR).of_block (heap_setCell_other _ _ _ _ (show w.heap.size + 1 + 1 ≠ wo.heap.size by omega)), (unhide HL).setCell (p := ⟨wo.heap.size, q, none⟩) (show w.heap.size ≤ wo.heap.size by omega) _⟩
            unfold setV
            show (if o = q then Value.bool true else Value.bool (takenB _ _ k s o)) = Value.bool (takenB _ _ k s o || (hitB L R k s && o == colTo (hitB L R) k s))
            rw [← unhide HTT, ← unhide HQ, Bool.true_and]
            by_cases e : o = q
            · rw [if_pos e, e]; simp
            · rw [if_neg e, show (o == q) = false by rw [beq_eq_false_iff_ne]; exact e, Bool.or_false]
          case measure => simp [intOf]; omega
      · have hsk : s = k := by omega
        have HT' : Hid (Rowd wr wo.heap.size 105 12 (setV (takenB (hitB L R) (colTo (hitB L R) k) k k))) := by rw [hsk] at HT; exact unhide HT
        have KF := hide (first_any (takenB (hitB L R) (colTo (hitB L R) k) k k) wr)
        clear HT
        iterate 60 (first | (refine wpList_load_row rfl 105 _ rfl wo.heap.size rfl 105 _ (0, 0) _ (unhide HT') Tryd.underlying105 rfl (by rw [rowA_size]; exact Tryd.size105) ?_; clear HT') | go_values | go_skip | go_guarded | go_step | skip)
        refine (unhide KF).mono ?_
        rintro e w6 ⟨rfl, hb6⟩
        have HC6 := hide ((unhide HC).below hb6)
        have HG6 := hide ((unhide HG).below hb6)
        have HP6 := hide ((unhide HP).below hb6)
        have HR6 := hide ((unhide HR).below hb6)
        have HL6 : Hid (Below w.heap.size w w6) := (unhide HL).trans (hb6.mono (unhide HL).size)
        have hf : ∀ o, w6.frozen? ⟨w3.heap.size, o, none⟩ = false := (unhide HC6).free
        obtain ⟨old, hold⟩ : ∃ v, w6.cell? ⟨w3.heap.size, k, none⟩ = some v := ⟨_, (unhide HC6).cell (by omega)⟩
        clear hb6 HC HG HP HR HL KF
        go_wp2_with fail
        go_roundw
        case rel =>
          have hset := (unhide HC6).set k (.int .i64 (firstF (takenB (hitB L R) (colTo (hitB L R) k) k k)))
          refine ⟨k + 1, by omega, by go_num, hset.congr (fun o ho => ?_), (unhide HG6).of_block (heap_setCell_other _ _ _ _ (show w2.heap.size ≠ w3.heap.size by omega)), (heap_setCell_other _ _ _ _ (show w.heap.size ≠ w3.heap.size by omega)).trans (unhide HP6), (unhide HR6).of_block (heap_setCell_other _ _ _ _ (show w.heap.size + 1 + 1 ≠ w3.heap.size by omega)), (unhide HL6).setCell (p := ⟨w3.heap.size, k, none⟩) (show w.heap.size ≤ w3.heap.size by omega) _⟩
          unfold numV
          show (if o = k then _ else _) = Value.int .i64 ((if o = k then _ else _ : Nat) : Int)
          by_cases e : o = k
          · rw [if_pos e, if_pos e]
          · rw [if_neg e, if_neg e]
        case measure => simp [intOf]; omega
end Go.Proofs.YtoepcplbpochpaaDoor

/-
  The homes: lodge.findHomes.
-/
namespace Go.Proofs.YtoepcplbpochpaaDoor
open Go.RowKit

theorem Tryd.size113 : (Tryd.prog.info? 113).map (·.size) = some 24 := by kernel_rfl
theorem zero113 : (#[.bool false, .int .i64 0, .bool false, .int .i64 0, .bool false, .int .i64 0, .bool false, .int .i64 0, .bool false, .int .i64 0, .bool false, .int .i64 0, .bool false, .int .i64 0, .bool false, .int .i64 0, .bool false, .int .i64 0, .bool false, .int .i64 0, .bool false, .int .i64 0, .bool false, .int .i64 0] : Array Value) = rowA 24 (homV (fun _ => false) (fun _ => 0)) := by kernel_rfl
theorem homV_plain (hs : Nat → Bool) (ha : Nat → Nat) : ∀ i, i < 24 → (homV hs ha i).oneCell' = true := fun i _ => by unfold homV; split <;> rfl
theorem hom_set {w : World} {B T n : Nat} {hs hs' : Nat → Bool} {ha ha' : Nat → Nat} (h : Rowd w B T n (homV hs ha)) {r : Nat} {b : Bool} {a : Nat} (h1 : ∀ q, hs' q = if q = r then b else hs q) (h2 : ∀ q, ha' q = if q = r then a else ha q) :
    Rowd ((w.setCell ⟨B, r * 2, none⟩ (.bool b)).setCell ⟨B, r * 2 + 1, none⟩ (.int .i64 a)) B T n (homV hs' ha') := by
  refine ((h.set (r * 2) (.bool b)).set (r * 2 + 1) (.int .i64 a)).congr (fun o ho => ?_)
  unfold homV
  rw [h1, h2]
  by_cases e1 : o = r * 2 + 1
  · subst e1; rw [if_pos rfl, if_neg (by omega), if_pos (by omega)]
  rw [if_neg e1]
  by_cases e2 : o = r * 2
  · subst e2; rw [if_pos rfl, if_pos (by omega), if_pos (by omega)]
  rw [if_neg e2]
  by_cases e3 : o % 2 = 0
  · rw [if_pos e3, if_pos e3, if_neg (by omega)]
  · rw [if_neg e3, if_neg e3, if_neg (by omega)]
/-- The homes of the first k registers. -/
def hsTo (L : List In4) (R K k : Nat) : Nat → Bool := fun r => if r < k then homS L R K r else false
def haTo (L : List In4) (R K k : Nat) : Nat → Nat := fun r => if r < k then homA L R K r else 0
theorem hsTo_step (L : List In4) (R K k : Nat) (q : Nat) : hsTo L R K (k + 1) q = if q = k then homS L R K k else hsTo L R K k q := by
  unfold hsTo
  by_cases e : q = k
  · subst e; rw [if_pos (by omega), if_pos rfl]
  · rw [if_neg e]
    by_cases h : q < k
    · rw [if_pos h, if_pos (by omega)]
    · rw [if_neg h, if_neg (by omega)]
theorem haTo_step (L : List In4) (R K k : Nat) (q : Nat) : haTo L R K (k + 1) q = if q = k then homA L R K k else haTo L R K k q := by
  unfold haTo
  by_cases e : q = k
  · subst e; rw [if_pos (by omega), if_pos rfl]
  · rw [if_neg e]
    by_cases h : q < k
    · rw [if_pos h, if_pos (by omega)]
    · rw [if_neg h, if_neg (by omega)]
theorem hsTo_all (L : List In4) (R K : Nat) : hsTo L R K R = homS L R K := by
  funext r; unfold hsTo homS
  by_cases h : r < R
  · rw [if_pos h]
  · rw [if_neg h, decide_eq_false h, Bool.false_and]
theorem haTo_all (L : List In4) (R K : Nat) : haTo L R K R = homA L R K := by
  funext r; unfold haTo
  by_cases h : r < R
  · rw [if_pos h]
  · rw [if_neg h]; unfold homA homS; rw [decide_eq_false h, Bool.false_and, if_neg (by decide)]; exact (colTo_past _ _ _ (by omega)).symm

set_option maxRecDepth 100000 in
set_option maxHeartbeats 4000000 in
theorem homes_any (P V : Int) (R K : Nat) (L : List In4) (ao : Option Addr) (cap : Nat) (w : World) (hH : HeldIns w ao L) (hR : R ≤ 12) (hK : 2 ≤ K) (hK' : K ≤ 16) (hn1 : 1 ≤ L.length) (hn : L.length ≤ 40)
    (hd : ∀ i, i < L.length → isWr (inAt L i).op = true → 0 ≤ (inAt L i).d ∧ (inAt L i).d < 12 ∧ i + 1 < L.length) :
    Calls Tryd.prog 68 #[.agg #[.int .i64 P, .int .i64 R, .int .i64 V, .slice ao L.length cap], .agg (rowA 480 (gridV (liveB L))), .int .i64 K] w fun e w' => e = .returned (.agg (rowA 24 (homV (homS L R K) (homA L R K)))) ∧ Below w.heap.size w w' := by
  have KC := hide (fun w (hH : HeldIns w ao L) => colours_any P V R L ao cap w hH hR hn1 hn hd)
  have HH := hide hH
  have HCO : Hid (∀ r, colB L R r ≤ 12) := fun r => by
    rcases Nat.lt_or_ge r R with h | h
    · exact Nat.le_trans (colTo_le (hitB L R) R hR r h).1 (by omega)
    · unfold colB; rw [colTo_past _ _ _ h]; omega
  have KN := hide (fun w => count_any P V R (.slice ao L.length cap) (colB L R) hR (unhide HCO) w)
  clear hH hd
  go_enter Tryd.func68, Tryd.ntmps68
  go_upto_region 1 with fail
  obtain ⟨w1, hw1, HP1, HV1, HR1, HL1, hz1⟩ := open_pl w P R V (.slice ao L.length cap) 480 24 113 (gridV (liveB L)) (homV (fun _ => false) (fun _ => 0))
  rw [zero113, ← hw1]
  clear hw1
  have p0 := (unhide HP1).c0
  have p1 := (unhide HP1).c1
  have p2 := (unhide HP1).c2
  have p3 := (unhide HP1).c3
  have KC' := hide (unhide KC w1 ((unhide HH).below (unhide HL1)))
  iterate 60 (first | (refine wpList_load_row rfl 108 _ rfl (w.heap.size + 1) rfl 108 _ (0, 0) _ (unhide HV1) Tryd.underlying108 rfl (by rw [rowA_size]; exact Tryd.size108) ?_; clear HV1) | go_values | go_skip | go_guarded | go_step | skip)
  refine (unhide KC').mono ?_
  rintro e w2 ⟨rfl, hb2⟩
  have HP2 := hide ((unhide HP1).below hb2)
  have HR2 := hide ((unhide HR1).below hb2)
  have HL2 : Hid (Below w.heap.size w w2) := (unhide HL1).trans (hb2.mono (unhide HL1).size)
  have hz2 : w.heap.size + 1 + 1 < w2.heap.size := Nat.lt_of_lt_of_le hz1 hb2.size
  clear hb2 p0 p1 p2 p3 KC' HP1 HR1 HL1
  obtain ⟨w3, hw3, HC3, HL3', hz3⟩ := box_row w2 145 12 (numV (colB L R))
  have HW3 := hide hw3
  have HP3 := hide ((unhide HP2).below (unhide HL3'))
  have HR3 := hide ((unhide HR2).below (unhide HL3'))
  have HL3 : Hid (Below w.heap.size w w3) := (unhide HL2).trans ((unhide HL3').mono (by omega))
  clear hw3 HP2 HR2 HL2 HL3'
  go_upto_region 3 with (refine wpList_store_row ?h1 145 ?h2 ?h3 ?h4 w2.heap.size ?h5 ?h6 ?h7 ?h8 ?h9 ?h10 ?h11 ?h12 ?h13 ?h14; case h4 => rfl)
  case h1 => rfl
  case h6 => rfl
  case h7 => rfl
  case h10 => exact heap_alloc_new _ _
  case h11 => rw [rowA_size]; exact Tryd.size145
  case h12 => rw [rowA_size]; rfl
  case h13 => exact rowA_plain (fun _ _ => rfl)
  rw [World.setRow_alloc_new, ← unhide HW3]
  have p0 := (unhide HP3).c0
  have p1 := (unhide HP3).c1
  have p2 := (unhide HP3).c2
  have p3 := (unhide HP3).c3
  have KN' := hide (unhide KN w3)
  have HCr := HC3
  iterate 60 (first | (refine wpList_load_row rfl 145 _ rfl w2.heap.size rfl 145 _ (0, 0) _ (unhide HCr) Tryd.underlying145 rfl (by rw [rowA_size]; exact Tryd.size145) ?_; clear HCr) | go_values | go_skip | go_guarded | go_step | skip)
  refine (unhide KN').mono ?_
  rintro e w4 ⟨rfl, hb4⟩
  have HP4 := hide ((unhide HP3).below hb4)
  have HR4 := hide ((unhide HR3).below hb4)
  have HC4 := hide ((unhide HC3).below hb4)
  have HL4 : Hid (Below w.heap.size w w4) := (unhide HL3).trans (hb4.mono (unhide HL3).size)
  have hz4 : w2.heap.size < w4.heap.size := (unhide HC4).lt
  obtain ⟨cn, hcn⟩ : ∃ cn, cn = cntTo (colB L R) R := ⟨_, rfl⟩
  have HKP := hide (show keptB L R K = if K < cn then K - 2 else K by rw [hcn]; rfl)
  rw [← hcn]
  clear hb4 p0 p1 p2 p3 KN' HP3 HR3 HL3 HC3 hcn HW3
  obtain ⟨kp, hkp⟩ : ∃ kp, kp = keptB L R K := ⟨_, rfl⟩
  have HKE := hide hkp
  rw [← hkp] at HKP
  clear hkp
  go_upto_if 19 with fail
  go_cut [8] from 20 to 21 (fun v wc => v = .int .i64 kp ∧ wc = w4)
  case first =>
    by_cases hc : K < cn
    · have hk2 : kp = K - 2 := by rw [unhide HKP, if_pos hc]
      have hk3 : (K : Int) - 2 = ((kp : Nat) : Int) := by omega
      go_wp2_with fail
      go_meet
      case rel => exact ⟨by go_num, rfl⟩
    · have hk2 : kp = K := by rw [unhide HKP, if_neg hc]
      go_wp2_with fail
      go_meet
      case rel => exact ⟨by rw [hk2], rfl⟩
  case rest =>
  obtain ⟨rfl, rfl⟩ := hcut
  obtain ⟨w5, hw5, HH5, HL5', hz5⟩ := box_row wc 113 24 (homV (fun _ => false) (fun _ => 0))
  have HW5 := hide hw5
  have HP5 := hide ((unhide HP4).below (unhide HL5'))
  have HR5 := hide ((unhide HR4).below (unhide HL5'))
  have HC5 := hide ((unhide HC4).below (unhide HL5'))
  have HL5 : Hid (Below w.heap.size w w5) := (unhide HL4).trans ((unhide HL5').mono (unhide HL4).size)
  have HZZ := hide (World.setRow_alloc_new wc (#[.bool false, .int .i64 0, .bool false, .int .i64 0, .bool false, .int .i64 0, .bool false, .int .i64 0, .bool false, .int .i64 0, .bool false, .int .i64 0, .bool false, .int .i64 0, .bool false, .int .i64 0, .bool false, .int .i64 0, .bool false, .int .i64 0, .bool false, .int .i64 0, .bool false, .int .i64 0] : Array Value) #[.bool false, .int .i64 0, .bool false, .int .i64 0, .bool false, .int .i64 0, .bool false, .int .i64 0, .bool false, .int .i64 0, .bool false, .int .i64 0, .bool false, .int .i64 0, .bool false, .int .i64 0, .bool false, .int .i64 0, .bool false, .int .i64 0, .bool false, .int .i64 0, .bool false, .int .i64 0] 113)
  clear hw5 HP4 HR4 HC4 HL4 HL5'
  iterate 60 (first | (refine wpList_store_row rfl 113 _ _ rfl wc.heap.size (#[.bool false, .int .i64 0, .bool false, .int .i64 0, .bool false, .int .i64 0, .bool false, .int .i64 0, .bool false, .int .i64 0, .bool false, .int .i64 0, .bool false, .int .i64 0, .bool false, .int .i64 0, .bool false, .int .i64 0, .bool false, .int .i64 0, .bool false, .int .i64 0, .bool false, .int .i64 0]) rfl rfl 113 (#[.bool false, .int .i64 0, .bool false, .int .i64 0, .bool false, .int .i64 0, .bool false, .int .i64 0, .bool false, .int .i64 0, .bool false, .int .i64 0, .bool false, .int .i64 0, .bool false, .int .i64 0, .bool false, .int .i64 0, .bool false, .int .i64 0, .bool false, .int .i64 0, .bool false, .int .i64 0]) (heap_alloc_new _ _) Tryd.size113 rfl (by kernel_rfl) ?_; rw [unhide HZZ, zero113, ← unhide HW5]; clear HZZ) | go_values | go_skip | go_guarded | go_step | skip)
  go_loopw [10] (fun i' wr => ∃ k : Nat, k ≤ R ∧ i' = .int .i64 k ∧ Hid (Rowd wr wc.heap.size 113 24 (homV (hsTo L R K k) (haTo L R K k))) ∧ Hid (Rowd wr w2.heap.size 145 12 (numV (colB L R))) ∧ Hid (ProgB wr w.heap.size P R V (.slice ao L.length cap)) ∧ Hid (Rowd wr (w.heap.size + 1 + 1) 113 24 (homV (fun _ => false) (fun _ => 0))) ∧ Hid (Below w.heap.size w wr)) (fun i' _ => R - (intOf i').toNat)
  case atStart => exact ⟨0, by omega, rfl, unhide HH5, unhide HC5, unhide HP5, unhide HR5, unhide HL5⟩
  case round =>
    clear HH5 HC5 HP5 HR5 HL5 HW5
    obtain ⟨k, hk, rfl, HH, HC, HP, HR, HL⟩ := hrel
    have p1 := (unhide HP).c1
    by_cases hlt : k < R
    case neg =>
      have hkR : k = R := by omega
      have HH' : Hid (Rowd wr wc.heap.size 113 24 (homV (homS L R K) (homA L R K))) := by rw [hkR, hsTo_all, haTo_all] at HH; exact unhide HH
      clear HH
      iterate 60 (first | (refine wpList_load_row rfl 113 _ rfl wc.heap.size rfl 113 _ (0, 0) _ (unhide HH') Tryd.underlying113 rfl (by rw [rowA_size]; exact Tryd.size113) ?_; refine wpList_store_row rfl 113 _ _ rfl (w.heap.size + 1 + 1) (rowA 24 (homV (homS L R K) (homA L R K))) rfl rfl 113 _ (unhide HR) (by rw [rowA_size]; exact Tryd.size113) (by rw [rowA_size, rowA_size]) (rowA_plain (homV_plain _ _)) ?_; clear HH') | go_values | go_skip | go_guarded | go_step | skip)
      go_wp2_with fail
      refine bodyPost_ret (results_cell_row rfl _ _ (w.heap.size + 1 + 1) 113 _ (0, 0) _ rfl (setRow_heap wr (w.heap.size + 1 + 1) _ _ 113 _ (unhide HR)) Tryd.underlying113 rfl (by rw [rowA_size]; exact Tryd.size113)) rfl ?_
      exact ⟨rfl, below_setRow (unhide HL) (by omega) _⟩
    have hki : (k : Int) < 12 := by omega
    have cc := num_cell (unhide HC) (r := k) (by omega)
    have hck := unhide HCO k
    obtain ⟨q, hq⟩ : ∃ q, q = colB L R k := ⟨_, rfl⟩
    rw [← hq] at cc hck
    have HQ := hide hq
    have hf : ∀ o, wr.frozen? ⟨wc.heap.size, o, none⟩ = false := (unhide HH).free
    obtain ⟨o1, ho1⟩ : ∃ v, wr.cell? ⟨wc.heap.size, k * 2, none⟩ = some v := ⟨_, (unhide HH).cell (by omega)⟩
    obtain ⟨o2, ho2⟩ : ∃ v, wr.cell? ⟨wc.heap.size, k * 2 + 1, none⟩ = some v := ⟨_, (unhide HH).cell (by omega)⟩
    obtain ⟨w6, hw6⟩ : ∃ w6, w6 = (wr.setCell ⟨wc.heap.size, k * 2, none⟩ (.bool false)).setCell ⟨wc.heap.size, k * 2 + 1, none⟩ (.int .i64 q) := ⟨_, rfl⟩
    have HW6 := hide hw6
    have HH6 : Hid (Rowd w6 wc.heap.size 113 24 (homV (fun r => if r = k then false else hsTo L R K k r) (fun r => if r = k then q else haTo L R K k r))) := by
      rw [hw6]; exact hom_set (unhide HH) (fun _ => rfl) (fun _ => rfl)
    have HC6 : Hid (Rowd w6 w2.heap.size 145 12 (numV (colB L R))) := by rw [hw6]; exact ((unhide HC).of_block (heap_setCell_other _ _ _ _ (show w2.heap.size ≠ wc.heap.size by omega))).of_block (heap_setCell_other _ _ _ _ (show w2.heap.size ≠ wc.heap.size by omega))
    have HP6 : Hid (ProgB w6 w.heap.size P R V (.slice ao L.length cap)) := by rw [hw6]; exact (heap_setCell_other _ _ _ _ (show w.heap.size ≠ wc.heap.size by omega)).trans ((heap_setCell_other _ _ _ _ (show w.heap.size ≠ wc.heap.size by omega)).trans (unhide HP))
    have HR6 : Hid (Rowd w6 (w.heap.size + 1 + 1) 113 24 (homV (fun _ => false) (fun _ => 0))) := by rw [hw6]; exact ((unhide HR).of_block (heap_setCell_other _ _ _ _ (show w.heap.size + 1 + 1 ≠ wc.heap.size by omega))).of_block (heap_setCell_other _ _ _ _ (show w.heap.size + 1 + 1 ≠ wc.heap.size by omega))
    have HL6 : Hid (Below w.heap.size w w6) := by rw [hw6]; exact ((unhide HL).setCell (p := ⟨wc.heap.size, k * 2, none⟩) (show w.heap.size ≤ wc.heap.size by omega) _).setCell (p := ⟨wc.heap.size, k * 2 + 1, none⟩) (show w.heap.size ≤ wc.heap.size by omega) _
    clear hq hw6
    go_upto_region 10 with fail
    rw [← unhide HW6]
    clear cc hf ho1 ho2 p1 HH HC HP HR HL
    have cc := num_cell (unhide HC6) (r := k) (by omega)
    rw [← unhide HQ] at cc
    by_cases hg : kp ≤ q
    · have hf : ∀ o, w6.frozen? ⟨wc.heap.size, o, none⟩ = false := (unhide HH6).free
      obtain ⟨o3, ho3⟩ : ∃ v, w6.cell? ⟨wc.heap.size, k * 2, none⟩ = some v := ⟨_, (unhide HH6).cell (by omega)⟩
      obtain ⟨o4, ho4⟩ : ∃ v, w6.cell? ⟨wc.heap.size, k * 2 + 1, none⟩ = some v := ⟨_, (unhide HH6).cell (by omega)⟩
      have HS : Hid (homS L R K k = true ∧ homA L R K k = k) := by
        have h1 : homS L R K k = true := by unfold homS; rw [decide_eq_true hlt, Bool.true_and]; exact decide_eq_true (by rw [← unhide HKE, ← unhide HQ]; exact hg)
        exact ⟨h1, by unfold homA; rw [if_pos h1]⟩
      go_wp2_with fail
      go_roundw
      case rel =>
        refine ⟨k + 1, by omega, by go_num, hom_set (unhide HH6) (r := k) (fun r => ?_) (fun r => ?_), ((unhide HC6).of_block (heap_setCell_other _ _ _ _ (show w2.heap.size ≠ wc.heap.size by omega))).of_block (heap_setCell_other _ _ _ _ (show w2.heap.size ≠ wc.heap.size by omega)), (heap_setCell_other _ _ _ _ (show w.heap.size ≠ wc.heap.size by omega)).trans ((heap_setCell_other _ _ _ _ (show w.heap.size ≠ wc.heap.size by omega)).trans (unhide HP6)), ((unhide HR6).of_block (heap_setCell_other _ _ _ _ (show w.heap.size + 1 + 1 ≠ wc.heap.size by omega))).of_block (heap_setCell_other _ _ _ _ (show w.heap.size + 1 + 1 ≠ wc.heap.size by omega)), ((unhide HL6).setCell (p := ⟨wc.heap.size, k * 2, none⟩) (show w.heap.size ≤ wc.heap.size by omega) _).setCell (p := ⟨wc.heap.size, k * 2 + 1, none⟩) (show w.heap.size ≤ wc.heap.size by omega) _⟩
        · rw [hsTo_step, (unhide HS).1]; split <;> rfl
        · rw [haTo_step, (unhide HS).2]; split <;> rfl
      case measure => simp [intOf]; omega
    · have HS : Hid (homS L R K k = false ∧ homA L R K k = q) := by
        have h1 : homS L R K k = false := by unfold homS; rw [decide_eq_true hlt, Bool.true_and]; exact decide_eq_false (by rw [← unhide HKE, ← unhide HQ]; exact hg)
        exact ⟨h1, by unfold homA; rw [if_neg (by rw [h1]; decide)]; exact (unhide HQ).symm⟩
      go_wp2_with fail
      go_roundw
      case rel =>
        refine ⟨k + 1, by omega, by go_num, (unhide HH6).congr (fun o ho => ?_), unhide HC6, unhide HP6, unhide HR6, unhide HL6⟩
        unfold homV
        rw [hsTo_step, haTo_step, (unhide HS).1, (unhide HS).2]
      case measure => simp [intOf]; omega
end Go.Proofs.YtoepcplbpochpaaDoor

/-
  What can be told, and where it is: lodge.canBeTold, lodge.placeOf, lodge.goesOn.
-/
namespace Go.Proofs.YtoepcplbpochpaaDoor
open Go.RowKit

def canB (f : Ft) (s : Nat → Bool) : Bool := f.k == 2 || (f.k == 3 && s f.a.toNat)
def placeK (f : Ft) (hs : Nat → Bool) : Int := if f.k = 2 then 2 else if hs f.a.toNat = true then 1 else 0
def placeA (f : Ft) (ha : Nat → Nat) : Int := if f.k = 2 then f.a else ha f.a.toNat

theorem below_drewN' {B : Nat} {w w' : World} (h : Below B w w') (n : Nat) : Below B w (w'.drewN n) := ⟨h.os, h.tape, h.output, h.size, h.block⟩
/-- The head of a function that takes a fact and a row. -/
theorem open_fr (w : World) (f : Ft) (n T : Nat) (c : Nat → Value) : ∃ w2, w2 = (w.alloc (.cells #[.int .i64 f.k, .int .i64 f.a] 151)).alloc (.cells (rowA n c) T) ∧ At2 w2 w.heap.size 0 f ∧ Hid (Rowd w2 (w.heap.size + 1) T n c) ∧ Hid (Below w.heap.size w w2) := by
  refine ⟨_, rfl, ?_, two_new _ _ _, ?_⟩
  · exact (at2_new w f _ rfl).below (below_alloc _ _) (by simp)
  · exact (below_alloc _ _).alloc (by simp) _

set_option maxRecDepth 100000 in
set_option maxHeartbeats 4000000 in
theorem can_any (f : Ft) (s : Nat → Bool) (w : World) (h3 : f.k = 3 → 0 ≤ f.a ∧ f.a < 12) :
    Calls Tryd.prog 102 #[.agg #[.int .i64 f.k, .int .i64 f.a], .agg (rowA 12 (setV s))] w fun e w' => e = .returned (.bool (canB f s)) ∧ Below w.heap.size w w' := by
  obtain ⟨w2, hw2, ⟨q0, q1⟩, HC, HB⟩ := open_fr w f 12 105 (setV s)
  have HW := hide hw2
  clear hw2
  go_enter Tryd.func102, Tryd.ntmps102
  go_upto_region 1 with fail
  rw [← unhide HW]
  by_cases h2 : f.k = 2
  · have HR := hide (show canB f s = true by unfold canB; rw [h2]; rfl)
    rw [h2] at q0
    clear h2
    go_wp2_with fail
    go_ret
    exact ⟨ret_bool (unhide HR).symm, unhide HB⟩
  have g2 : (f.k == 2) = false := by rw [beq_eq_false_iff_ne]; exact h2
  by_cases hk : f.k = 3
  · obtain ⟨a0, a1⟩ := h3 hk
    obtain ⟨an, han⟩ : ∃ an : Nat, f.a = an := ⟨f.a.toNat, by omega⟩
    have c := (unhide HC).cell (show an < 12 by omega)
    unfold setV at c
    have ai : (an : Int) < 12 := by omega
    have HR := hide (show canB f s = s an by unfold canB; rw [hk, han]; simp)
    rw [hk] at q0
    rw [han] at q1
    clear h2 hk han h3 a0 a1 g2
    go_wp2_with fail
    go_ret
    exact ⟨ret_bool (unhide HR).symm, unhide HB⟩
  · have g3 : (f.k == 3) = false := by rw [beq_eq_false_iff_ne]; exact hk
    have HR := hide (show canB f s = false by unfold canB; rw [g2, g3]; rfl)
    clear h2 hk h3
    go_wp2_with fail
    go_ret
    exact ⟨ret_bool (unhide HR).symm, unhide HB⟩

set_option maxRecDepth 100000 in
set_option maxHeartbeats 4000000 in
theorem place_any (f : Ft) (hs : Nat → Bool) (ha : Nat → Nat) (w : World) (h3 : f.k ≠ 2 → 0 ≤ f.a ∧ f.a < 12) :
    Calls Tryd.prog 103 #[.agg #[.int .i64 f.k, .int .i64 f.a], .agg (rowA 24 (homV hs ha))] w fun e w' => e = .returned (.tuple #[.int .i64 (placeK f hs), .int .i64 (placeA f ha)]) ∧ Below w.heap.size w w' := by
  obtain ⟨w2, hw2, ⟨q0, q1⟩, HC, HB⟩ := open_fr w f 24 113 (homV hs ha)
  have HW := hide hw2
  clear hw2
  go_enter Tryd.func103, Tryd.ntmps103
  go_upto_region 1 with fail
  rw [← unhide HW]
  by_cases h2 : f.k = 2
  · have HR := hide (show placeK f hs = 2 ∧ placeA f ha = f.a by unfold placeK placeA; rw [if_pos h2, if_pos h2]; exact ⟨rfl, rfl⟩)
    rw [h2] at q0
    clear h2
    go_wp2_with fail
    go_quiet (fail)
    go_wp2_with fail
    go_ret2
    exact ⟨ret2 (unhide HR).1.symm (unhide HR).2.symm, below_drewN' (unhide HB) _⟩
  have g2 : (f.k == 2) = false := by rw [beq_eq_false_iff_ne]; exact h2
  obtain ⟨a0, a1⟩ := h3 h2
  obtain ⟨an, han⟩ : ∃ an : Nat, f.a = an := ⟨f.a.toNat, by omega⟩
  have c0 := hom_s (unhide HC) (r := an) (by omega)
  have c1 := hom_a (unhide HC) (r := an) (by omega)
  have ai : (an : Int) < 12 := by omega
  obtain ⟨b, hb⟩ : ∃ b, b = hs an := ⟨_, rfl⟩
  rw [← hb] at c0
  rw [han] at q1
  cases b
  · have HR := hide (show placeK f hs = 0 ∧ placeA f ha = ha an by unfold placeK placeA; rw [if_neg h2, if_neg h2, han, Int.toNat_natCast, ← hb]; exact ⟨rfl, rfl⟩)
    clear h2 hb han h3 a0 a1
    go_wp2_with fail
    go_quiet (fail)
    go_wp2_with fail
    go_ret2
    exact ⟨ret2 (unhide HR).1.symm (unhide HR).2.symm, below_drewN' (unhide HB) _⟩
  · have HR := hide (show placeK f hs = 1 ∧ placeA f ha = ha an by unfold placeK placeA; rw [if_neg h2, if_neg h2, han, Int.toNat_natCast, ← hb]; exact ⟨rfl, rfl⟩)
    clear h2 hb han h3 a0 a1
    go_wp2_with fail
    go_quiet (fail)
    go_wp2_with fail
    go_ret2
    exact ⟨ret2 (unhide HR).1.symm (unhide HR).2.symm, below_drewN' (unhide HB) _⟩

/-- Does a range go on with another? -/
def goesB (a b : Rg) : Bool := a.v == b.v && a.t == b.f && a.k == b.k && a.a == b.a
set_option maxRecDepth 100000 in
set_option maxHeartbeats 4000000 in
theorem goesOn_any (a b : Rg) (w : World) :
    Calls Tryd.prog 132 #[.agg #[.int .i64 a.v, .int .i64 a.f, .int .i64 a.t, .int .i64 a.k, .int .i64 a.a], .agg #[.int .i64 b.v, .int .i64 b.f, .int .i64 b.t, .int .i64 b.k, .int .i64 b.a]] w fun e w' => e = .returned (.bool (goesB a b)) ∧ Below w.heap.size w w' := by
  have HG := hide (show goesB a b = (a.v == b.v && a.t == b.f && a.k == b.k && a.a == b.a) from rfl)
  obtain ⟨v1, f1, t1, k1, a1⟩ := a
  obtain ⟨v2, f2, t2, k2, a2⟩ := b
  simp only at HG ⊢
  by_cases h1 : v1 = v2
  case neg =>
    have g1 : (v1 == v2) = false := by rw [beq_eq_false_iff_ne]; exact h1
    rw [g1] at HG
    clear h1
    go_enter Tryd.func132, Tryd.ntmps132
    go_wp2
    go_ret
    exact ⟨ret_bool (by rw [unhide HG]; rfl), ((Below.refl _ _).alloc (Nat.le_refl _) _).alloc (by simp) _⟩
  by_cases h2 : t1 = f2
  case neg =>
    have g2 : (t1 == f2) = false := by rw [beq_eq_false_iff_ne]; exact h2
    rw [g2] at HG
    subst h1
    clear h2
    go_enter Tryd.func132, Tryd.ntmps132
    go_wp2
    go_ret
    exact ⟨ret_bool (by rw [unhide HG]; simp), ((Below.refl _ _).alloc (Nat.le_refl _) _).alloc (by simp) _⟩
  by_cases h3 : k1 = k2
  case neg =>
    have g3 : (k1 == k2) = false := by rw [beq_eq_false_iff_ne]; exact h3
    rw [g3] at HG
    subst h1 h2
    clear h3
    go_enter Tryd.func132, Tryd.ntmps132
    go_wp2
    go_ret
    exact ⟨ret_bool (by rw [unhide HG]; simp), ((Below.refl _ _).alloc (Nat.le_refl _) _).alloc (by simp) _⟩
  subst h1 h2 h3
  go_enter Tryd.func132, Tryd.ntmps132
  go_wp2
  go_ret
  exact ⟨ret_bool (by rw [unhide HG]; simp), ((Below.refl _ _).alloc (Nat.le_refl _) _).alloc (by simp) _⟩
end Go.Proofs.YtoepcplbpochpaaDoor

/-
  The writer in memory, and what putting one instruction leaves behind: (*lodge.writer).put.
-/
namespace Go.Proofs.YtoepcplbpochpaaDoor
open Go.RowKit

def In4.cells (x : In4) : List Value := [.int .i64 x.op, .int .i64 x.d, .int .i64 x.a, .int .i64 x.b]
def insCells (l : List In4) : List Value := l.flatMap In4.cells
theorem insCells_len (l : List In4) : (insCells l).length = l.length * 4 := by
  unfold insCells
  induction l with
  | nil => rfl
  | cons r l ih => rw [List.flatMap_cons, List.length_append, ih, List.length_cons]; show 4 + _ = _; omega
theorem insCells_snoc (l : List In4) (r : In4) : insCells (l ++ [r]) = insCells l ++ r.cells := by unfold insCells; rw [List.flatMap_append]; simp

/-- The writer's cells. -/
def wrV (hs : Nat → Bool) (ha : Nat → Nat) (K : Nat) (sv : Value) (st : Nat → Nat) : Nat → Value := fun o => if o < 24 then homV hs ha o else if o = 24 then .int .i64 K else if o = 25 then sv else .int .i64 (st (o - 26))
/-- The writer has written the code C. -/
structure WrB (w : World) (B : Nat) (hs : Nat → Bool) (ha : Nat → Nat) (K : Nat) (st : Nat → Nat) (C : List In4) (sv : Value) : Prop where
  row : Rowd w B 117 66 (wrV hs ha K sv st)
  own : w.ownsRow (B + 1) 77 4 sv C.length (insCells C)
theorem WrB.hs {w : World} {B : Nat} {hs : Nat → Bool} {ha : Nat → Nat} {K : Nat} {st : Nat → Nat} {C : List In4} {sv : Value} (h : WrB w B hs ha K st C sv) {r : Nat} (hr : r < 12) : w.cell? ⟨B, r * 2, none⟩ = some (.bool (hs r)) := by
  rw [h.row.cell (by omega)]; unfold wrV homV; rw [if_pos (by omega), if_pos (by omega), show r * 2 / 2 = r by omega]
theorem WrB.ha {w : World} {B : Nat} {hs : Nat → Bool} {ha : Nat → Nat} {K : Nat} {st : Nat → Nat} {C : List In4} {sv : Value} (h : WrB w B hs ha K st C sv) {r : Nat} (hr : r < 12) : w.cell? ⟨B, r * 2 + 1, none⟩ = some (.int .i64 (ha r)) := by
  rw [h.row.cell (by omega)]; unfold wrV homV; rw [if_pos (by omega), if_neg (by omega), show (r * 2 + 1) / 2 = r by omega]
theorem WrB.k {w : World} {B : Nat} {hs : Nat → Bool} {ha : Nat → Nat} {K : Nat} {st : Nat → Nat} {C : List In4} {sv : Value} (h : WrB w B hs ha K st C sv) : w.cell? ⟨B, 24, none⟩ = some (.int .i64 K) := (h.row.cell (by omega)).trans rfl
theorem WrB.sv {w : World} {B : Nat} {hs : Nat → Bool} {ha : Nat → Nat} {K : Nat} {st : Nat → Nat} {C : List In4} {sv : Value} (h : WrB w B hs ha K st C sv) : w.cell? ⟨B, 25, none⟩ = some sv := (h.row.cell (by omega)).trans rfl
theorem WrB.lt {w : World} {B : Nat} {hs : Nat → Bool} {ha : Nat → Nat} {K : Nat} {st : Nat → Nat} {C : List In4} {sv : Value} (h : WrB w B hs ha K st C sv) : B < w.heap.size := h.row.lt
theorem WrB.keep0 {w w' : World} {B : Nat} {hs : Nat → Bool} {ha : Nat → Nat} {K : Nat} {st : Nat → Nat} {C : List In4} {sv : Value} (h : WrB w B hs ha K st C sv) (hk : Keep (fun _ => False) w w') : WrB w' B hs ha K st C sv :=
  ⟨h.row.keep hk (fun h => h), own_keep h.own hk (fun _ _ h => h)⟩
theorem WrB.below {w w' : World} {B : Nat} {hs : Nat → Bool} {ha : Nat → Nat} {K : Nat} {st : Nat → Nat} {C : List In4} {sv : Value} (h : WrB w B hs ha K st C sv) (hb : Below w.heap.size w w') : WrB w' B hs ha K st C sv := h.keep0 (Keep.of_below hb _)
theorem WrB.drew {w : World} {B : Nat} {hs : Nat → Bool} {ha : Nat → Nat} {K : Nat} {st : Nat → Nat} {C : List In4} {sv : Value} (h : WrB w B hs ha K st C sv) : WrB w.drew B hs ha K st C sv := h.keep0 (Keep.refl _ _).drew

/-- What writing leaves as it was: all but the writer's block and the block of its code; the code moves to new memory alone. -/
structure WrStep (B : Nat) (w : World) (sv : Value) (w' : World) (sv' : Value) : Prop where
  keep : Keep (fun k => k = B ∨ some k = sv.ownBlock) w w'
  fresh : ∀ k, k < w.heap.size → some k ≠ sv.ownBlock → some k ≠ sv'.ownBlock
theorem WrStep.refl (B : Nat) (w : World) (sv : Value) : WrStep B w sv w sv := ⟨Keep.refl _ _, fun _ _ h => h⟩
theorem WrStep.trans {B : Nat} {w w1 w2 : World} {sv sv1 sv2 : Value} (h : WrStep B w sv w1 sv1) (h' : WrStep B w1 sv1 w2 sv2) : WrStep B w sv w2 sv2 := by
  refine ⟨h.keep.trans h'.keep (fun i hi hS => ?_), fun k hk hn => h'.fresh k (Nat.lt_of_lt_of_le hk h.keep.size) (h.fresh k hk hn)⟩
  rcases hS with e | e
  · exact .inl e
  · right
    rcases Classical.em (some i = sv.ownBlock) with h1 | h1
    · exact h1
    · exact absurd e (h.fresh i hi h1)
theorem WrStep.quiet {B : Nat} {w w' : World} {sv : Value} (h : Keep (fun _ => False) w w') : WrStep B w sv w' sv := ⟨h.mono (fun _ _ h => h.elim), fun _ _ h => h⟩
theorem WrStep.below {B : Nat} {w w' : World} {sv : Value} (h : Below w.heap.size w w') : WrStep B w sv w' sv := .quiet (Keep.of_below h _)
theorem WrStep.block {B : Nat} {w w' : World} {sv sv' : Value} (h : WrStep B w sv w' sv') {k : Nat} (hk : k < w.heap.size) (h1 : k ≠ B) (h2 : some k ≠ sv.ownBlock) : w'.heap[k]? = w.heap[k]? := h.keep.block k hk (fun h => h.elim h1 h2)
/-- Below the writer all is as it was. -/
theorem WrStep.under {B : Nat} {w w' : World} {hs : Nat → Bool} {ha : Nat → Nat} {K : Nat} {st : Nat → Nat} {C : List In4} {sv sv' : Value} (h : WrStep B w sv w' sv') (hw : WrB w B hs ha K st C sv) : Below B w w' :=
  h.keep.below (Nat.le_of_lt hw.lt) (fun k hk e => e.elim (fun e => by omega) (fun e => by have := (own_in hw.own k e.symm).1; omega))
/-- A block that lay there ahead of writing is not the code's. -/
theorem WrB.apart {w : World} {B : Nat} {hs : Nat → Bool} {ha : Nat → Nat} {K : Nat} {st : Nat → Nat} {C : List In4} {sv : Value} (h : WrB w B hs ha K st C sv) {k : Nat} (hk : w.heap.size ≤ k) : some k ≠ sv.ownBlock := fun e => by
  have := (own_in h.own k e.symm).2; omega

def PutPost (w : World) (B : Nat) (hs : Nat → Bool) (ha : Nat → Nat) (K : Nat) (st : Nat → Nat) (C : List In4) (sv : Value) (e : Ending) (w' : World) : Prop :=
  e = .returned (.tuple #[]) ∧ ∃ sv', WrB w' B hs ha K st C sv' ∧ WrStep B w sv w' sv'
theorem PutPost.drew {w w' : World} {B : Nat} {hs : Nat → Bool} {ha : Nat → Nat} {K : Nat} {st : Nat → Nat} {C : List In4} {sv : Value} {e : Ending} (h : PutPost w B hs ha K st C sv e w') : PutPost w B hs ha K st C sv e w'.drew := by
  obtain ⟨h1, sv', h2, h3⟩ := h
  exact ⟨h1, sv', h2.drew, h3.trans (.quiet (Keep.refl _ _).drew)⟩

theorem put_post {w w2 wz w3 : World} {B g cap H : Nat} {hs : Nat → Bool} {ha : Nat → Nat} {K : Nat} {st : Nat → Nat} {C : List In4} {sv : Value} {x : In4} (hw : WrB w2 B hs ha K st C sv) (hK2 : Keep (fun _ => False) w w2) (hz : Keep (fun _ => False) w2 wz) (hg : wz.grownBy w3 sv.ownBlock)
    (hat : sv.ownBlock = some g ∨ g = H) (hH : w2.heap.size ≤ H)
    (hown : w3.ownsRow (B + 1) 77 4 (.slice (some ⟨g, 0, none⟩) (C.length + 1) cap) (C.length + 1) (insCells C ++ [.int .i64 x.op, .int .i64 x.d, .int .i64 x.a, .int .i64 x.b])) :
    PutPost w B hs ha K st (C ++ [x]) sv (.returned (.tuple #[])) (w3.setCell ⟨B, 25, none⟩ (.slice (some ⟨g, 0, none⟩) (C.length + 1) cap)) := by
  have hB2 := hw.lt
  have hne : some B ≠ sv.ownBlock := fun e => by have := (own_in hw.own B e.symm).1; omega
  have hbl := grown_block hz hg hne hB2
  have hk3 : Keep (fun k => some k = sv.ownBlock) w2 w3 := (hz.mono (fun _ _ h => h.elim)).grown hg (fun k e _ => e.symm)
  have hkB : Keep (fun k => k = B) w3 (w3.setCell ⟨B, 25, none⟩ (.slice (some ⟨g, 0, none⟩) (C.length + 1) cap)) := keep_set (Keep.refl _ _) _ _
  refine ⟨rfl, .slice (some ⟨g, 0, none⟩) (C.length + 1) cap, ⟨?_, ?_⟩, ⟨?_, ?_⟩⟩
  · refine ((hw.row.of_block hbl).set 25 _).congr (fun o ho => ?_)
    unfold wrV
    by_cases e : o = 25
    · subst e; rw [if_pos rfl, if_neg (by omega), if_neg (by omega), if_pos rfl]
    · rw [if_neg e, if_neg e, if_neg e]
  · rw [List.length_append, insCells_snoc]
    exact own_keep hown hkB (fun k hk e => by have := (own_in hown k hk).1; omega)
  · exact ((hK2.mono (T := fun k => k = B ∨ some k = sv.ownBlock) (fun _ _ h => h.elim)).trans hk3 (fun _ _ h => .inr h)).trans hkB (fun _ _ h => .inl h)
  · intro k hk hn e
    have e' : some k = some g := e
    injection e' with e'
    subst e'
    have := hK2.size
    rcases hat with h | h
    · exact hn h.symm
    · omega

theorem Tryd.info77 : (Tryd.prog.info? 77).map (fun i => (i.zero, i.size, i.bytes)) = some (some (.agg #[.int .i64 0, .int .i64 0, .int .i64 0, .int .i64 0]), 4, 32) := by kernel_rfl
set_option maxRecDepth 100000 in
set_option maxHeartbeats 4000000 in
theorem put1_any (B : Nat) (hs : Nat → Bool) (ha : Nat → Nat) (K : Nat) (st : Nat → Nat) (C : List In4) (sv : Value) (x : In4) (w : World) (h : WrB w B hs ha K st C sv) (hl : C.length ≤ 1000) :
    Calls Tryd.prog 126 #[.pointer (some ⟨B, 0, none⟩), .agg #[.int .i64 x.op, .int .i64 x.d, .int .i64 x.a, .int .i64 x.b]] w (PutPost w B hs ha K st (C ++ [x]) sv) := by
  have hB := h.lt
  have HI := hide h
  clear h
  obtain ⟨w2, hw2, hq, HB2, hZ⟩ := box4 w x
  have HW := hide hw2
  have HK2 : Hid (Keep (fun _ => False) w w2) := Keep.of_below (unhide HB2) _
  have HI2 := hide ((unhide HI).below (unhide HB2))
  have c25 : w2.cell? ⟨B, 25, none⟩ = some sv := (unhide HI2).sv
  have hf2 : ∀ o, w2.frozen? ⟨B, o, none⟩ = false := (unhide HI2).row.free
  have hB2 : B < w2.heap.size := (unhide HI2).lt
  have HO := hide (unhide HI2).own
  have HN : Hid (some B ≠ sv.ownBlock) := fun e => by have := (own_in (unhide HO) B e.symm).1; omega
  obtain ⟨q0, q1, q2, q3⟩ := hq
  obtain ⟨i0, hi, hz0, hz1, hz2'⟩ := info_parts Tryd.info77
  clear hw2
  go_enter Tryd.func126, Tryd.ntmps126
  go_wp2_with fail
  rw [← unhide HW]
  go_wp2_with fail
  go_region_law ((refine step_append_lies _ (by rfl) _ _ _ (by rfl) (B + 1) 77 i0 _ 4 32 Tryd.underlying22 hi hz0 hz1 hz2' rfl (by omega) sv C.length (insCells C) (by rfl) (own_keep (unhide HO) (S := fun _ => False) (by repeat first | exact Keep.refl _ _ | refine Keep.drew ?_ | refine Keep.alloc ?_ _) (fun _ _ h => h)) ⟨w2.heap.size, 0, none⟩ 1 1 [.int .i64 x.op, .int .i64 x.d, .int .i64 x.a, .int .i64 x.b] (by rfl) (by rfl) (World.news_of_block (cs := #[.int .i64 x.op, .int .i64 x.d, .int .i64 x.a, .int .i64 x.b]) (t := 77) (fr := (0, 0)) (heap_alloc_new _ _)) (by simp [Value.oneCell']) (by omega) (by unfold maxLen; omega) (by omega) (by simp; omega) (w2.heap.size + 1) (by simp) ?_; intro g cap w3 hown3 hgrow hat3 hlt3; have HBL := hide (grown_block (a := w2) (by repeat first | exact Keep.refl _ _ | refine Keep.drew ?_ | refine Keep.alloc ?_ _) hgrow (unhide HN) hB2); have b25 : w3.cell? ⟨B, 25, none⟩ = some sv := (World.cell?_of_block (unhide HBL)).trans c25; have bf : w3.frozen? ⟨B, 25, none⟩ = false := (World.frozen?_of_block (unhide HBL)).trans (hf2 25)))
  all_goals go_wp2_with fail
  all_goals go_returns
  all_goals
    have hP := put_post (x := x) (H := w2.heap.size + 1) (unhide HI2) (unhide HK2) (by repeat first | exact Keep.refl _ _ | refine Keep.drew ?_ | refine Keep.alloc ?_ _) hgrow hat3 (by omega) hown3
    first | exact hP | exact hP.drew | exact hP.drew.drew
end Go.Proofs.YtoepcplbpochpaaDoor
