/-
  The homes: lodge.findHomes.
-/
import Derived.Test.YtoepcplbpochpaaDoorUnit41
import Derived.Deep.CutRange

namespace Go.Proofs.YtoepcplbpochpaaDoor
open Go.RowKit

theorem Tryd.size113 : (Tryd.prog.info? 113).map (·.size) = some 24 := by kernel_rfl
theorem zero113 : (#[.bool false, .int .i64 0, .bool false, .int .i64 0, .bool false, .int .i64 0, .bool false, .int .i64 0, .bool false, .int .i64 0, .bool false, .int .i64 0, .bool false, .int .i64 0, .bool false, .int .i64 0, .bool false, .int .i64 0, .bool false, .int .i64 0, .bool false, .int .i64 0, .bool false, .int .i64 0] : Array Value) = rowA 24 (homV (fun _ => false) (fun _ => 0)) := by kernel_rfl
theorem homV_plain (hs : Nat → Bool) (ha : Nat → Nat) : ∀ i, i < 24 → (homV hs ha i).oneCell' = true := fun i _ => by unfold homV; split <;> rfl
theorem hom_set {w : World} {B T n : Nat} {hs hs' : Nat → Bool} {ha ha' : Nat → Nat} (h : Rowd w B T n (homV hs ha)) {r : Nat} {b : Bool} {a : Nat} (h1 : ∀ q, hs' q = if q = r then b else hs q) (h2 : ∀ q, ha' q = if q = r then a else ha q) :
    Rowd ((w.setCell ⟨B, r * 2, none⟩ (.bool b)).setCell ⟨B, r * 2 + 1, none⟩ (.int .i64 a)) B T n (homV hs' ha') := by
  refine ((h.set (r * 2) (.bool b)).set (r * 2 + 1) (.int .i64 a)).congr (fun o ho => ?_)
  unfold homV
  rw [h1, h2]
  by_cases e1 : o = r * 2 + 1
  · subst e1; rw [if_pos rfl, if_neg (by omega), if_pos (by omega)]
  rw [if_neg e1]
  by_cases e2 : o = r * 2
  · subst e2; rw [if_pos rfl, if_pos (by omega), if_pos (by omega)]
  rw [if_neg e2]
  by_cases e3 : o % 2 = 0
  · rw [if_pos e3, if_pos e3, if_neg (by omega)]
  · rw [if_neg e3, if_neg e3, if_neg (by omega)]
/-- The homes of the first k registers. -/
def hsTo (L : List In4) (R K k : Nat) : Nat → Bool := fun r => if r < k then homS L R K r else false
def haTo (L : List In4) (R K k : Nat) : Nat → Nat := fun r => if r < k then homA L R K r else 0
theorem hsTo_step (L : List In4) (R K k : Nat) (q : Nat) : hsTo L R K (k + 1) q = if q = k then homS L R K k else hsTo L R K k q := by
  unfold hsTo
  by_cases e : q = k
  · subst e; rw [if_pos (by omega), if_pos rfl]
  · rw [if_neg e]
    by_cases h : q < k
    · rw [if_pos h, if_pos (by omega)]
    · rw [if_neg h, if_neg (by omega)]
theorem haTo_step (L : List In4) (R K k : Nat) (q : Nat) : haTo L R K (k + 1) q = if q = k then homA L R K k else haTo L R K k q := by
  unfold haTo
  by_cases e : q = k
  · subst e; rw [if_pos (by omega), if_pos rfl]
  · rw [if_neg e]
    by_cases h : q < k
    · rw [if_pos h, if_pos (by omega)]
    · rw [if_neg h, if_neg (by omega)]
theorem hsTo_all (L : List In4) (R K : Nat) : hsTo L R K R = homS L R K := by
  funext r; unfold hsTo homS
  by_cases h : r < R
  · rw [if_pos h]
  · rw [if_neg h, decide_eq_false h, Bool.false_and]
theorem haTo_all (L : List In4) (R K : Nat) : haTo L R K R = homA L R K := by
  funext r; unfold haTo
  by_cases h : r < R
  · rw [if_pos h]
  · rw [if_neg h]; unfold homA homS; rw [decide_eq_false h, Bool.false_and, if_neg (by decide)]; exact (colTo_past _ _ _ (by omega)).symm

set_option maxRecDepth 100000 in
set_option maxHeartbeats 4000000 in
theorem homes_any (P V : Int) (R K : Nat) (L : List In4) (ao : Option Addr) (cap : Nat) (w : World) (hH : HeldIns w ao L) (hR : R ≤ 12) (hK : 2 ≤ K) (hK' : K ≤ 16) (hn1 : 1 ≤ L.length) (hn : L.length ≤ 40)
    (hd : ∀ i, i < L.length → isWr (inAt L i).op = true → 0 ≤ (inAt L i).d ∧ (inAt L i).d < 12 ∧ i + 1 < L.length) :
    Calls Tryd.prog 68 #[.agg #[.int .i64 P, .int .i64 R, .int .i64 V, .slice ao L.length cap], .agg (rowA 480 (gridV (liveB L))), .int .i64 K] w fun e w' => e = .returned (.agg (rowA 24 (homV (homS L R K) (homA L R K)))) ∧ Below w.heap.size w w' := by
  have KC := hide (fun w (hH : HeldIns w ao L) => colours_any P V R L ao cap w hH hR hn1 hn hd)
  have HH := hide hH
  have HCO : Hid (∀ r, colB L R r ≤ 12) := fun r => by
    rcases Nat.lt_or_ge r R with h | h
    · exact Nat.le_trans (colTo_le (hitB L R) R hR r h).1 (by omega)
    · unfold colB; rw [colTo_past _ _ _ h]; omega
  have KN := hide (fun w => count_any P V R (.slice ao L.length cap) (colB L R) hR (unhide HCO) w)
  clear hH hd
  go_enter Tryd.func68, Tryd.ntmps68
  go_upto_region 1 with fail
  obtain ⟨w1, hw1, HP1, HV1, HR1, HL1, hz1⟩ := open_pl w P R V (.slice ao L.length cap) 480 24 113 (gridV (liveB L)) (homV (fun _ => false) (fun _ => 0))
  rw [zero113, ← hw1]
  clear hw1
  have p0 := (unhide HP1).c0
  have p1 := (unhide HP1).c1
  have p2 := (unhide HP1).c2
  have p3 := (unhide HP1).c3
  have KC' := hide (unhide KC w1 ((unhide HH).below (unhide HL1)))
  iterate 60 (first | (refine wpList_load_row rfl 108 _ rfl (w.heap.size + 1) rfl 108 _ (0, 0) _ (unhide HV1) Tryd.underlying108 rfl (by rw [rowA_size]; exact Tryd.size108) ?_; clear HV1) | go_values | go_skip | go_guarded | go_step | skip)
  refine (unhide KC').mono ?_
  rintro e w2 ⟨rfl, hb2⟩
  have HP2 := hide ((unhide HP1).below hb2)
  have HR2 := hide ((unhide HR1).below hb2)
  have HL2 : Hid (Below w.heap.size w w2) := (unhide HL1).trans (hb2.mono (unhide HL1).size)
  have hz2 : w.heap.size + 1 + 1 < w2.heap.size := Nat.lt_of_lt_of_le hz1 hb2.size
  clear hb2 p0 p1 p2 p3 KC' HP1 HR1 HL1
  obtain ⟨w3, hw3, HC3, HL3', hz3⟩ := box_row w2 145 12 (numV (colB L R))
  have HW3 := hide hw3
  have HP3 := hide ((unhide HP2).below (unhide HL3'))
  have HR3 := hide ((unhide HR2).below (unhide HL3'))
  have HL3 : Hid (Below w.heap.size w w3) := (unhide HL2).trans ((unhide HL3').mono (by omega))
  clear hw3 HP2 HR2 HL2 HL3'
  go_upto_region 3 with (refine wpList_store_row ?h1 145 ?h2 ?h3 ?h4 w2.heap.size ?h5 ?h6 ?h7 ?h8 ?h9 ?h10 ?h11 ?h12 ?h13 ?h14; case h4 => rfl)
  case h1 => rfl
  case h6 => rfl
  case h7 => rfl
  case h10 => exact heap_alloc_new _ _
  case h11 => rw [rowA_size]; exact Tryd.size145
  case h12 => rw [rowA_size]; rfl
  case h13 => exact rowA_plain (fun _ _ => rfl)
  rw [World.setRow_alloc_new, ← unhide HW3]
  have p0 := (unhide HP3).c0
  have p1 := (unhide HP3).c1
  have p2 := (unhide HP3).c2
  have p3 := (unhide HP3).c3
  have KN' := hide (unhide KN w3)
  have HCr := HC3
  iterate 60 (first | (refine wpList_load_row rfl 145 _ rfl w2.heap.size rfl 145 _ (0, 0) _ (unhide HCr) Tryd.underlying145 rfl (by rw [rowA_size]; exact Tryd.size145) ?_; clear HCr) | go_values | go_skip | go_guarded | go_step | skip)
  refine (unhide KN').mono ?_
  rintro e w4 ⟨rfl, hb4⟩
  have HP4 := hide ((unhide HP3).below hb4)
  have HR4 := hide ((unhide HR3).below hb4)
  have HC4 := hide ((unhide HC3).below hb4)
  have HL4 : Hid (Below w.heap.size w w4) := (unhide HL3).trans (hb4.mono (unhide HL3).size)
  have hz4 : w2.heap.size < w4.heap.size := (unhide HC4).lt
  obtain ⟨cn, hcn⟩ : ∃ cn, cn = cntTo (colB L R) R := ⟨_, rfl⟩
  have HKP := hide (show keptB L R K = if K < cn then K - 2 else K by rw [hcn]; rfl)
  rw [← hcn]
  clear hb4 p0 p1 p2 p3 KN' HP3 HR3 HL3 HC3 hcn HW3
  obtain ⟨kp, hkp⟩ : ∃ kp, kp = keptB L R K := ⟨_, rfl⟩
  have HKE := hide hkp
  rw [← hkp] at HKP
  clear hkp
  go_upto_if 19 with fail
  go_cut [8] from 20 to 21 (fun v wc => v = .int .i64 kp ∧ wc = w4)
  case first =>
    by_cases hc : K < cn
    · have hk2 : kp = K - 2 := by rw [unhide HKP, if_pos hc]
      have hk3 : (K : Int) - 2 = ((kp : Nat) : Int) := by omega
      go_wp2_with fail
      go_meet
      case rel => exact ⟨by go_num, rfl⟩
    · have hk2 : kp = K := by rw [unhide HKP, if_neg hc]
      go_wp2_with fail
      go_meet
      case rel => exact ⟨by rw [hk2], rfl⟩
  case rest =>
  obtain ⟨rfl, rfl⟩ := hcut
  obtain ⟨w5, hw5, HH5, HL5', hz5⟩ := box_row wc 113 24 (homV (fun _ => false) (fun _ => 0))
  have HW5 := hide hw5
  have HP5 := hide ((unhide HP4).below (unhide HL5'))
  have HR5 := hide ((unhide HR4).below (unhide HL5'))
  have HC5 := hide ((unhide HC4).below (unhide HL5'))
  have HL5 : Hid (Below w.heap.size w w5) := (unhide HL4).trans ((unhide HL5').mono (unhide HL4).size)
  have HZZ := hide (World.setRow_alloc_new wc (#[.bool false, .int .i64 0, .bool false, .int .i64 0, .bool false, .int .i64 0, .bool false, .int .i64 0, .bool false, .int .i64 0, .bool false, .int .i64 0, .bool false, .int .i64 0, .bool false, .int .i64 0, .bool false, .int .i64 0, .bool false, .int .i64 0, .bool false, .int .i64 0, .bool false, .int .i64 0] : Array Value) #[.bool false, .int .i64 0, .bool false, .int .i64 0, .bool false, .int .i64 0, .bool false, .int .i64 0, .bool false, .int .i64 0, .bool false, .int .i64 0, .bool false, .int .i64 0, .bool false, .int .i64 0, .bool false, .int .i64 0, .bool false, .int .i64 0, .bool false, .int .i64 0, .bool false, .int .i64 0] 113)
  clear hw5 HP4 HR4 HC4 HL4 HL5'
  iterate 60 (first | (refine wpList_store_row rfl 113 _ _ rfl wc.heap.size (#[.bool false, .int .i64 0, .bool false, .int .i64 0, .bool false, .int .i64 0, .bool false, .int .i64 0, .bool false, .int .i64 0, .bool false, .int .i64 0, .bool false, .int .i64 0, .bool false, .int .i64 0, .bool false, .int .i64 0, .bool false, .int .i64 0, .bool false, .int .i64 0, .bool false, .int .i64 0]) rfl rfl 113 (#[.bool false, .int .i64 0, .bool false, .int .i64 0, .bool false, .int .i64 0, .bool false, .int .i64 0, .bool false, .int .i64 0, .bool false, .int .i64 0, .bool false, .int .i64 0, .bool false, .int .i64 0, .bool false, .int .i64 0, .bool false, .int .i64 0, .bool false, .int .i64 0, .bool false, .int .i64 0]) (heap_alloc_new _ _) Tryd.size113 rfl (by kernel_rfl) ?_; rw [unhide HZZ, zero113, ← unhide HW5]; clear HZZ) | go_values | go_skip | go_guarded | go_step | skip)
  go_loopw [10] (fun i' wr => ∃ k : Nat, k ≤ R ∧ i' = .int .i64 k ∧ Hid (Rowd wr wc.heap.size 113 24 (homV (hsTo L R K k) (haTo L R K k))) ∧ Hid (Rowd wr w2.heap.size 145 12 (numV (colB L R))) ∧ Hid (ProgB wr w.heap.size P R V (.slice ao L.length cap)) ∧ Hid (Rowd wr (w.heap.size + 1 + 1) 113 24 (homV (fun _ => false) (fun _ => 0))) ∧ Hid (Below w.heap.size w wr)) (fun i' _ => R - (intOf i').toNat)
  case atStart => exact ⟨0, by omega, rfl, unhide HH5, unhide HC5, unhide HP5, unhide HR5, unhide HL5⟩
  case round =>
    clear HH5 HC5 HP5 HR5 HL5 HW5
    obtain ⟨k, hk, rfl, HH, HC, HP, HR, HL⟩ := hrel
    have p1 := (unhide HP).c1
    by_cases hlt : k < R
    case neg =>
      have hkR : k = R := by omega
      have HH' : Hid (Rowd wr wc.heap.size 113 24 (homV (homS L R K) (homA L R K))) := by rw [hkR, hsTo_all, haTo_all] at HH; exact unhide HH
      clear HH
      iterate 60 (first | (refine wpList_load_row rfl 113 _ rfl wc.heap.size rfl 113 _ (0, 0) _ (unhide HH') Tryd.underlying113 rfl (by rw [rowA_size]; exact Tryd.size113) ?_; refine wpList_store_row rfl 113 _ _ rfl (w.heap.size + 1 + 1) (rowA 24 (homV (homS L R K) (homA L R K))) rfl rfl 113 _ (unhide HR) (by rw [rowA_size]; exact Tryd.size113) (by rw [rowA_size, rowA_size]) (rowA_plain (homV_plain _ _)) ?_; clear HH') | go_values | go_skip | go_guarded | go_step | skip)
      go_wp2_with fail
      refine bodyPost_ret (results_cell_row rfl _ _ (w.heap.size + 1 + 1) 113 _ (0, 0) _ rfl (setRow_heap wr (w.heap.size + 1 + 1) _ _ 113 _ (unhide HR)) Tryd.underlying113 rfl (by rw [rowA_size]; exact Tryd.size113)) rfl ?_
      exact ⟨rfl, below_setRow (unhide HL) (by omega) _⟩
    have hki : (k : Int) < 12 := by omega
    have cc := num_cell (unhide HC) (r := k) (by omega)
    have hck := unhide HCO k
    obtain ⟨q, hq⟩ : ∃ q, q = colB L R k := ⟨_, rfl⟩
    rw [← hq] at cc hck
    have HQ := hide hq
    have hf : ∀ o, wr.frozen? ⟨wc.heap.size, o, none⟩ = false := (unhide HH).free
    obtain ⟨o1, ho1⟩ : ∃ v, wr.cell? ⟨wc.heap.size, k * 2, none⟩ = some v := ⟨_, (unhide HH).cell (by omega)⟩
    obtain ⟨o2, ho2⟩ : ∃ v, wr.cell? ⟨wc.heap.size, k * 2 + 1, none⟩ = some v := ⟨_, (unhide HH).cell (by omega)⟩
    obtain ⟨w6, hw6⟩ : ∃ w6, w6 = (wr.setCell ⟨wc.heap.size, k * 2, none⟩ (.bool false)).setCell ⟨wc.heap.size, k * 2 + 1, none⟩ (.int .i64 q) := ⟨_, rfl⟩
    have HW6 := hide hw6
    have HH6 : Hid (Rowd w6 wc.heap.size 113 24 (homV (fun r => if r = k then false else hsTo L R K k r) (fun r => if r = k then q else haTo L R K k r))) := by
      rw [hw6]; exact hom_set (unhide HH) (fun _ => rfl) (fun _ => rfl)
    have HC6 : Hid (Rowd w6 w2.heap.size 145 12 (numV (colB L R))) := by rw [hw6]; exact ((unhide HC).of_block (heap_setCell_other _ _ _ _ (show w2.heap.size ≠ wc.heap.size by omega))).of_block (heap_setCell_other _ _ _ _ (show w2.heap.size ≠ wc.heap.size by omega))
    have HP6 : Hid (ProgB w6 w.heap.size P R V (.slice ao L.length cap)) := by rw [hw6]; exact (heap_setCell_other _ _ _ _ (show w.heap.size ≠ wc.heap.size by omega)).trans ((heap_setCell_other _ _ _ _ (show w.heap.size ≠ wc.heap.size by omega)).trans (unhide HP))
    have HR6 : Hid (Rowd w6 (w.heap.size + 1 + 1) 113 24 (homV (fun _ => false) (fun _ => 0))) := by rw [hw6]; exact ((unhide HR).of_block (heap_setCell_other _ _ _ _ (show w.heap.size + 1 + 1 ≠ wc.heap.size by omega))).of_block (heap_setCell_other _ _ _ _ (show w.heap.size + 1 + 1 ≠ wc.heap.size by omega))
    have HL6 : Hid (Below w.heap.size w w6) := by rw [hw6]; exact ((unhide HL).setCell (p := ⟨wc.heap.size, k * 2, none⟩) (show w.heap.size ≤ wc.heap.size by omega) _).setCell (p := ⟨wc.heap.size, k * 2 + 1, none⟩) (show w.heap.size ≤ wc.heap.size by omega) _
    clear hq hw6
    go_upto_region 10 with fail
    rw [← unhide HW6]
    clear cc hf ho1 ho2 p1 HH HC HP HR HL
    have cc := num_cell (unhide HC6) (r := k) (by omega)
    rw [← unhide HQ] at cc
    by_cases hg : kp ≤ q
    · have hf : ∀ o, w6.frozen? ⟨wc.heap.size, o, none⟩ = false := (unhide HH6).free
      obtain ⟨o3, ho3⟩ : ∃ v, w6.cell? ⟨wc.heap.size, k * 2, none⟩ = some v := ⟨_, (unhide HH6).cell (by omega)⟩
      obtain ⟨o4, ho4⟩ : ∃ v, w6.cell? ⟨wc.heap.size, k * 2 + 1, none⟩ = some v := ⟨_, (unhide HH6).cell (by omega)⟩
      have HS : Hid (homS L R K k = true ∧ homA L R K k = k) := by
        have h1 : homS L R K k = true := by unfold homS; rw [decide_eq_true hlt, Bool.true_and]; exact decide_eq_true (by rw [← unhide HKE, ← unhide HQ]; exact hg)
        exact ⟨h1, by unfold homA; rw [if_pos h1]⟩
      go_wp2_with fail
      go_roundw
      case rel =>
        refine ⟨k + 1, by omega, by go_num, hom_set (unhide HH6) (r := k) (fun r => ?_) (fun r => ?_), ((unhide HC6).of_block (heap_setCell_other _ _ _ _ (show w2.heap.size ≠ wc.heap.size by omega))).of_block (heap_setCell_other _ _ _ _ (show w2.heap.size ≠ wc.heap.size by omega)), (heap_setCell_other _ _ _ _ (show w.heap.size ≠ wc.heap.size by omega)).trans ((heap_setCell_other _ _ _ _ (show w.heap.size ≠ wc.heap.size by omega)).trans (unhide HP6)), ((unhide HR6).of_block (heap_setCell_other _ _ _ _ (show w.heap.size + 1 + 1 ≠ wc.heap.size by omega))).of_block (heap_setCell_other _ _ _ _ (show w.heap.size + 1 + 1 ≠ wc.heap.size by omega)), ((unhide HL6).setCell (p := ⟨wc.heap.size, k * 2, none⟩) (show w.heap.size ≤ wc.heap.size by omega) _).setCell (p := ⟨wc.heap.size, k * 2 + 1, none⟩) (show w.heap.size ≤ wc.heap.size by omega) _⟩
        · rw [hsTo_step, (unhide HS).1]; split <;> rfl
        · rw [haTo_step, (unhide HS).2]; split <;> rfl
      case measure => simp [intOf]; omega
    · have HS : Hid (homS L R K k = false ∧ homA L R K k = q) := by
        have h1 : homS L R K k = false := by unfold homS; rw [decide_eq_true hlt, Bool.true_and]; exact decide_eq_false (by rw [← unhide HKE, ← unhide HQ]; exact hg)
        exact ⟨h1, by unfold homA; rw [if_neg (by rw [h1]; decide)]; exact (unhide HQ).symm⟩
      go_wp2_with fail
      go_roundw
      case rel =>
        refine ⟨k + 1, by omega, by go_num, (unhide HH6).congr (fun o ho => ?_), unhide HC6, unhide HP6, unhide HR6, unhide HL6⟩
        unfold homV
        rw [hsTo_step, haTo_step, (unhide HS).1, (unhide HS).2]
      case measure => simp [intOf]; omega
end Go.Proofs.YtoepcplbpochpaaDoor
