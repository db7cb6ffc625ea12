/-
  Which registers collide: lodge.findCollisions.
-/
import Derived.Test.YtoepcplbpochpaaDoorUnit39
import Derived.Deep.MidRow
import Derived.Deep.RegionHeld3

namespace Go.Proofs.YtoepcplbpochpaaDoor
open Go.RowKit

/-- A program that was boxed. -/
def ProgB (w : World) (B : Nat) (P R V : Int) (sl : Value) : Prop := w.heap[B]? = some (.cells #[.int .i64 P, .int .i64 R, .int .i64 V, sl] 24 (0, 0))
theorem ProgB.c0 {w : World} {B : Nat} {P R V : Int} {sl : Value} (h : ProgB w B P R V sl) : w.cell? ⟨B, 0, none⟩ = some (.int .i64 P) := (cell_of_row w B 0 _ 24 (0, 0) h).trans rfl
theorem ProgB.c1 {w : World} {B : Nat} {P R V : Int} {sl : Value} (h : ProgB w B P R V sl) : w.cell? ⟨B, 1, none⟩ = some (.int .i64 R) := (cell_of_row w B 1 _ 24 (0, 0) h).trans rfl
theorem ProgB.c2 {w : World} {B : Nat} {P R V : Int} {sl : Value} (h : ProgB w B P R V sl) : w.cell? ⟨B, 2, none⟩ = some (.int .i64 V) := (cell_of_row w B 2 _ 24 (0, 0) h).trans rfl
theorem ProgB.c3 {w : World} {B : Nat} {P R V : Int} {sl : Value} (h : ProgB w B P R V sl) : w.cell? ⟨B, 3, none⟩ = some sl := (cell_of_row w B 3 _ 24 (0, 0) h).trans rfl
theorem ProgB.lt {w : World} {B : Nat} {P R V : Int} {sl : Value} (h : ProgB w B P R V sl) : B < w.heap.size := (Array.getElem?_eq_some_iff.1 h).1
theorem ProgB.below {w w' : World} {B : Nat} {P R V : Int} {sl : Value} (h : ProgB w B P R V sl) (hb : Below w.heap.size w w') : ProgB w' B P R V sl := (hb.block B h.lt).trans h
theorem ProgB.keep {S : Nat → Prop} {w w' : World} {B : Nat} {P R V : Int} {sl : Value} (h : ProgB w B P R V sl) (hk : Keep S w w') (hS : ¬ S B) : ProgB w' B P R V sl := (hk.block B h.lt hS).trans h
theorem progb_alloc (w : World) (P R V : Int) (sl : Value) : ProgB (w.alloc (.cells #[.int .i64 P, .int .i64 R, .int .i64 V, sl] 24)) w.heap.size P R V sl := heap_alloc_new _ _
theorem below_alloc (w : World) (o : Obj) : Below w.heap.size w (w.alloc o) := (Below.refl _ _).alloc (Nat.le_refl _) _
theorem at_alloc (w : World) (k : Nat) (o : Obj) (hk : k = w.heap.size) : (w.alloc o).heap[k]? = some o := by subst hk; exact heap_alloc_new _ _

theorem zero184 : Tryd.zeroCells184 = rowA 144 (fun _ => .bool false) := by kernel_rfl
theorem Tryd.size184 : (Tryd.prog.info? 184).map (·.size) = some 144 := by kernel_rfl
theorem Tryd.size105 : (Tryd.prog.info? 105).map (·.size) = some 12 := by kernel_rfl

/-- Twelve cells in the midst of a block. -/
def cells12 (s : Nat → Bool) : List Value := (List.range 12).map (setV s)
theorem range12 {w : World} {B T n : Nat} {f : Nat → Nat → Bool} (h : Rowd w B T n (gridV f)) (i : Nat) (hi : i * 12 + 12 ≤ n) : w.rangeAt B (i * 12) (cells12 (f i)) := fun j v hv => by
  unfold cells12 at hv
  have hj : j < 12 := by
    rcases Nat.lt_or_ge j 12 with h | h
    · exact h
    · rw [List.getElem?_eq_none (by simp; exact h)] at hv; cases hv
  rw [List.getElem?_map, List.getElem?_range hj] at hv
  rw [gcell h hj (by omega)]
  exact hv
theorem size12 (s : Nat → Bool) : (Tryd.prog.info? 105).map (·.size) = some (cells12 s).length := by
  unfold cells12; rw [List.length_map, List.length_range]; exact Tryd.size105
theorem agg12 (s : Nat → Bool) : Value.agg (cells12 s).toArray = .agg (rowA 12 (setV s)) := rfl

/-- The world behind the head of a function that takes a program and what is live, and gives a row. -/
theorem open_pl (w : World) (P R V : Int) (sl : Value) (n m T : Nat) (c d : Nat → Value) : ∃ w1, w1 = ((w.alloc (.cells #[.int .i64 P, .int .i64 R, .int .i64 V, sl] 24)).alloc (.cells (rowA n c) 108)).alloc (.cells (rowA m d) T) ∧
    Hid (ProgB w1 w.heap.size P R V sl) ∧ Hid (Rowd w1 (w.heap.size + 1) 108 n c) ∧ Hid (Rowd w1 (w.heap.size + 1 + 1) T m d) ∧ Hid (Below w.heap.size w w1) ∧ w.heap.size + 1 + 1 < w1.heap.size := by
  refine ⟨_, rfl, ?_, ?_, ?_, ?_, by simp⟩
  · exact ((progb_alloc w P R V sl).below (below_alloc _ _)).below (below_alloc _ _)
  · exact (show Rowd _ (w.heap.size + 1) 108 n c from two_new _ _ _).below (below_alloc _ _)
  · exact at_alloc _ _ _ (by simp)
  · exact ((below_alloc _ _).alloc (by simp) _).alloc (by simp; omega) _

set_option maxRecDepth 100000 in
set_option maxHeartbeats 4000000 in
theorem collide_any (P V : Int) (R : Nat) (L : List In4) (ao : Option Addr) (cap : Nat) (w : World) (hH : HeldIns w ao L) (hR : R ≤ 12) (hn1 : 1 ≤ L.length) (hn : L.length ≤ 40)
    (hd : ∀ i, i < L.length → isWr (inAt L i).op = true → 0 ≤ (inAt L i).d ∧ (inAt L i).d < 12 ∧ i + 1 < L.length) :
    Calls Tryd.prog 124 #[.agg #[.int .i64 P, .int .i64 R, .int .i64 V, .slice ao L.length cap], .agg (rowA 480 (gridV (liveB L)))] w fun e w' => e = .returned (.agg (rowA 144 (gridV (hitB L R)))) ∧ Below w.heap.size w w' := by
  obtain ⟨b, off, rfl, hb, hI⟩ := held_at hH hn1
  have HI := hide hI
  have KA := hide add_any
  have HD := hide hd
  clear hI hH hd
  go_enter Tryd.func124, Tryd.ntmps124
  go_upto_region 1 with fail
  obtain ⟨w1, hw1, HP1, HV1, HR1, HL1, hz1⟩ := open_pl w P R V (.slice (some ⟨b, off, none⟩) L.length cap) 480 144 184 (gridV (liveB L)) (fun _ => .bool false)
  rw [zero184, ← hw1]
  clear hw1
  go_wp2_with (refine wpList_store_row ?h1 184 ?h2 ?h3 ?h4 w1.heap.size ?h5 ?h6 ?h7 ?h8 ?h9 ?h10 ?h11 ?h12 ?h13 ?h14; case h4 => rfl)
  case h1 => rfl
  case h6 => rfl
  case h7 => rfl
  case h10 => exact heap_alloc_new _ _
  case h11 => exact Tryd.size184
  case h12 => rfl
  case h13 => kernel_rfl
  rw [World.setRow_alloc_new, zero184]
  obtain ⟨w2, hw2, HB2, HL2', hz2⟩ := box_row w1 184 144 (fun _ => .bool false)
  rw [← hw2]
  clear hw2
  have HP2 := hide ((unhide HP1).below (unhide HL2'))
  have HV2 := hide ((unhide HV1).below (unhide HL2'))
  have HR2 := hide ((unhide HR1).below (unhide HL2'))
  have HL2 : Hid (Below w.heap.size w w2) := (unhide HL1).trans ((unhide HL2').mono (by omega))
  clear HP1 HV1 HR1 HL1 HL2'
  go_wp2_with fail
  go_loopw [6] (fun i' wr => ∃ k : Nat, k ≤ R ∧ i' = .int .i64 k ∧ Hid (Rowd wr w1.heap.size 184 144 (gridV (hitsR L k))) ∧ Hid (ProgB wr w.heap.size P R V (.slice (some ⟨b, off, none⟩) L.length cap)) ∧ Hid (Rowd wr (w.heap.size + 1) 108 480 (gridV (liveB L))) ∧ Hid (Rowd wr (w.heap.size + 1 + 1) 184 144 (fun _ => .bool false)) ∧ Hid (Below w.heap.size w wr)) (fun i' _ => R - (intOf i').toNat)
  case atStart => exact ⟨0, by omega, rfl, unhide HB2, unhide HP2, unhide HV2, unhide HR2, unhide HL2⟩
  case round =>
    obtain ⟨k, hk, rfl, HB, HP, HV, HR, HL⟩ := hrel
    have p1 := (unhide HP).c1
    by_cases hlt : k < R
    · have hki : (k : Int) < 12 := by omega
      have c := gcell (unhide HV) (i := 0) (r := k) (by omega) (by omega)
      obtain ⟨t, ht⟩ : ∃ t, t = liveB L 0 k := ⟨_, rfl⟩
      rw [← ht] at c
      rw [Nat.zero_mul, Nat.zero_add] at c
      have HT := hide ht
      clear ht
      cases t
      · go_wp2_with fail
        go_roundw
        case rel => exact ⟨k + 1, by omega, by go_num, by unfold hitsR; rw [if_neg (by rw [← unhide HT]; decide)]; exact unhide HB, unhide HP, unhide HV, unhide HR, unhide HL⟩
        case measure => simp [intOf]; omega
      · have HX := hide (range12 (unhide HV) 0 (by omega))
        rw [Nat.zero_mul] at HX
        have KA' := hide (unhide KA w1.heap.size (hitsR L k) k (by omega) (liveB L 0) wr (unhide HB))
        iterate 60 (first | (refine wpList_load_mid rfl 105 _ rfl (w.heap.size + 1) 0 rfl (cells12 (liveB L 0)) _ (unhide HX) Tryd.underlying105 rfl (size12 _) ?_; rw [agg12]; clear HX) | go_values | go_skip | go_guarded | go_step | skip)
        refine (unhide KA').mono ?_
        rintro e w5 ⟨rfl, hg5, hk5⟩
        have HG5 : Hid (Rowd w5 w1.heap.size 184 144 (gridV (hitsR L (k + 1)))) := by
          show Rowd w5 w1.heap.size 184 144 (gridV (if liveB L 0 k = true then hitAdd k (liveB L 0) (hitsR L k) else hitsR L k))
          rw [if_pos (unhide HT).symm]; exact hg5
        have HP5 := hide ((unhide HP).keep hk5 (by omega))
        have HV5 := hide ((unhide HV).keep hk5 (by omega))
        have HR5 := hide ((unhide HR).keep hk5 (by omega))
        have HL5 : Hid (Below w.heap.size w w5) := (unhide HL).trans (hk5.below (unhide HL).size (fun k hk e => by omega))
        clear hg5 hk5 KA'
        go_wp2_with fail
        go_roundw
        case rel => exact ⟨k + 1, by omega, by go_num, unhide HG5, unhide HP5, unhide HV5, unhide HR5, unhide HL5⟩
        case measure => simp [intOf]; omega
    · have hkR : k = R := by omega
      have HB' : Hid (Rowd wr w1.heap.size 184 144 (gridV (hitsC L R 0))) := by rw [hkR] at HB; exact unhide HB
      clear HB hkR HP2 HV2 HR2 HL2 HB2
      go_wp2_with fail
      obtain ⟨wo, rfl⟩ : ∃ wo, wo = wr := ⟨_, rfl⟩
      go_loopw [7] (fun i' wr => ∃ k : Nat, k ≤ L.length ∧ i' = .int .i64 k ∧ Hid (Rowd wr w1.heap.size 184 144 (gridV (hitsC L R k))) ∧ Hid (ProgB wr w.heap.size P R V (.slice (some ⟨b, off, none⟩) L.length cap)) ∧ Hid (Rowd wr (w.heap.size + 1) 108 480 (gridV (liveB L))) ∧ Hid (Rowd wr (w.heap.size + 1 + 1) 184 144 (fun _ => .bool false)) ∧ Hid (Below w.heap.size w wr)) (fun i' _ => L.length - (intOf i').toNat)
      case atStart => exact ⟨0, by omega, rfl, unhide HB', unhide HP, unhide HV, unhide HR, unhide HL⟩
      case round =>
        clear HB' HP HV HR HL p1
        obtain ⟨k, hk, rfl, HB, HP, HV, HR, HL⟩ := hrel
        have p3 := (unhide HP).c3
        by_cases hlt : k < L.length
        · have hki : (k : Int) < L.length := by omega
          obtain ⟨q0, q1, q2, q3⟩ := ((unhide HI) k hlt).below (unhide HL) hb
          obtain ⟨x, hx⟩ : ∃ x, x = inAt L k := ⟨_, rfl⟩
          rw [← hx] at q0 q1 q2 q3
          have KW := hide (isWr_any x.op)
          obtain ⟨t, ht⟩ : ∃ t, t = isWr x.op := ⟨_, rfl⟩
          rw [← ht] at KW
          have HT := hide ht
          have HX := hide hx
          clear ht hx
          cases t
          · go_wp2_with (go_at_call 136; refine (unhide KW _).mono ?_; rintro e w2 ⟨rfl, rfl⟩)
            go_roundw
            case rel =>
              have hb := below_alloc wr (.cells #[.int .i64 x.op, .int .i64 x.d, .int .i64 x.a, .int .i64 x.b] 77)
              refine ⟨k + 1, by omega, by go_num, ?_, (unhide HP).below hb, (unhide HV).below hb, (unhide HR).below hb, (unhide HL).trans (hb.mono (unhide HL).size)⟩
              show Rowd _ w1.heap.size 184 144 (gridV (if isWr (inAt L k).op = true then hitAdd (inAt L k).d (liveB L (k + 1)) (hitsC L R k) else hitsC L R k))
              rw [← unhide HX, ← unhide HT, if_neg (by decide)]
              exact (unhide HB).below hb
            case measure => simp [intOf]; omega
          · obtain ⟨d0, d1, k1⟩ := unhide HD k hlt (by rw [← unhide HX]; exact (unhide HT).symm)
            rw [← unhide HX] at d0 d1
            obtain ⟨dn, hdn⟩ : ∃ dn : Nat, x.d = dn := ⟨x.d.toNat, by omega⟩
            have HDN := hide hdn
            clear hdn
            obtain ⟨w3, hw3, hq3, HL3, hz3⟩ := box4 wr x
            have HW3 := hide hw3
            have HB3 := hide ((unhide HB).below (unhide HL3))
            have HP3 := hide ((unhide HP).below (unhide HL3))
            have HV3 := hide ((unhide HV).below (unhide HL3))
            have HR3 := hide ((unhide HR).below (unhide HL3))
            have HLw : Hid (Below w.heap.size w w3) := (unhide HL).trans ((unhide HL3).mono (unhide HL).size)
            have hlt1 := (unhide HR).lt
            have hB1 := (unhide HB).lt
            obtain ⟨y0, y1, y2, y3⟩ := hq3
            go_upto_region 12 with (go_at_call 136; refine (unhide KW _).mono ?_; rintro e w2 ⟨rfl, rfl⟩)
            rw [← unhide HW3]
            clear hw3 q0 q1 q2 q3 HB HP HV HR HL HL3 p3 KW
            rw [unhide HDN] at y1
            have k2 : (k : Int) + 1 < 40 := by omega
            have k3 : 0 ≤ (k : Int) + 1 := by omega
            have kw : IntKind.i64.wrap ((k : Int) + 1) = (k : Int) + 1 := by rw [IntKind.wrap_i64]; omega
            have kn : ((k : Int) + 1).toNat = k + 1 := by omega
            have KA' := hide (unhide KA w1.heap.size (hitsC L R k) dn (by have := unhide HDN; omega) (liveB L (k + 1)))
            have hX := range12 (unhide HV3) (k + 1) (by omega)
            have hu := Tryd.underlying105
            have hs := size12 (liveB L (k + 1))
            go_region_held3 (fun w' => w'.cell? ⟨wr.heap.size, 1, none⟩ = some (.int .i64 (dn : Int)) ∧ w'.rangeAt (w.heap.size + 1) ((k + 1) * 12) (cells12 (liveB L (k + 1)))) (first | assumption | (constructor <;> assumption))
              ((go_at_call 137; refine (unhide KA' _ (unhide HB3).drew).mono ?_; rintro e w5 ⟨rfl, hg5, hk5'⟩; have hk5 : Keep (fun k => k = w1.heap.size) w3 w5 := ⟨hk5'.os, hk5'.tape, hk5'.output, hk5'.size, hk5'.block⟩; clear hk5'; have HG5 := hide hg5; have HP5 := hide ((unhide HP3).keep hk5 (by omega)); have HV5 := hide ((unhide HV3).keep hk5 (by omega)); have HR5 := hide ((unhide HR3).keep hk5 (by omega)); have HL5 : Hid (Below w.heap.size w w5) := (unhide HLw).trans (hk5.below (unhide HLw).size (fun k hk e => by omega)); have z1 : w5.cell? ⟨wr.heap.size, 1, none⟩ = some (.int .i64 (dn : Int)) := (World.cell?_of_block (hk5.block wr.heap.size hz3 (by omega))).trans y1; have z2 := range12 (unhide HV5) (k + 1) (by omega); clear hg5 hk5 hX y0 y1 y2 y3))
            clear z1 z2
            go_wp2_with fail
            go_roundw
            case rel =>
              refine ⟨k + 1, by omega, by go_num, ?_, unhide HP5, unhide HV5, unhide HR5, unhide HL5⟩
              show Rowd _ w1.heap.size 184 144 (gridV (if isWr (inAt L k).op = true then hitAdd (inAt L k).d (liveB L (k + 1)) (hitsC L R k) else hitsC L R k))
              rw [← unhide HX, ← unhide HT, if_pos rfl, unhide HDN]
              exact unhide HG5
            case measure => simp [intOf]; omega
        · have hkL : k = L.length := by omega
          have HB' : Hid (Rowd wr w1.heap.size 184 144 (gridV (hitB L R))) := by rw [hkL] at HB; exact unhide HB
          clear HB
          iterate 60 (first | (refine wpList_load_row rfl 184 _ rfl w1.heap.size rfl 184 _ (0, 0) _ (unhide HB') Tryd.underlying184 rfl (by rw [rowA_size]; exact Tryd.size184) ?_; refine wpList_store_row rfl 184 _ _ rfl (w.heap.size + 1 + 1) _ rfl rfl 184 _ (unhide HR) (by rw [rowA_size]; exact Tryd.size184) (by rw [rowA_size, rowA_size]) (rowA_plain (fun _ _ => rfl)) ?_; clear HB') | go_values | go_skip | go_guarded | go_step | skip)
          go_wp2_with fail
          refine bodyPost_ret (results_cell_row rfl _ _ (w.heap.size + 1 + 1) 184 _ (0, 0) _ rfl (setRow_heap wr (w.heap.size + 1 + 1) _ _ 184 _ (unhide HR)) Tryd.underlying184 rfl (by rw [rowA_size]; exact Tryd.size184)) rfl ?_
          exact ⟨rfl, below_setRow (unhide HL) (by omega) _⟩
end Go.Proofs.YtoepcplbpochpaaDoor
