/-
  lodgelaw.Units, walked: whatever the unit, the args and the fuel: true, and nothing that was there is written.
-/
import Derived.Test.YtoepcplbpochpaaDoorUnit34
import Derived.Test.YtoepcplbpochpaaDoorUnit24
import Derived.Test.YtoepcplbpochpaaDoorUnit46

namespace Go.Proofs.YtoepcplbpochpaaDoor
open Go.RowKit

/-- What the law keeps from call to call: its two units, the code and the args that it lends. -/
structure EnviU (w w' : World) (N : Nat) (K S P V : Int) (T : ByteArray) (n cc : Nat) (ac : Option Addr) (L : List In4) (xs : List Int) (C A : Nat) : Prop where
  p : At6 w' N K S P V (.slice ac n cc) T
  q : At6 w' (N + 1) K S P V (.slice (some ⟨C, 0, none⟩) n (n + 2)) T
  le : Lent w' C L
  ro : Roomy w' A xs
  be : Below w.heap.size w w'
theorem at6_below {w w' : World} {B g : Nat} {K S P V : Int} {v : Value} {T : ByteArray} (h : At6 w g K S P V v T) (hb : Below B w w') (hg : g < B) : At6 w' g K S P V v T :=
  ⟨(hb.cell (p := ⟨g, 0, none⟩) hg).trans h.1, (hb.cell (p := ⟨g, 1, none⟩) hg).trans h.2.1, (hb.cell (p := ⟨g, 2, none⟩) hg).trans h.2.2.1, (hb.cell (p := ⟨g, 3, none⟩) hg).trans h.2.2.2.1, (hb.cell (p := ⟨g, 4, none⟩) hg).trans h.2.2.2.2.1, (hb.cell (p := ⟨g, 5, none⟩) hg).trans h.2.2.2.2.2⟩
theorem EnviU.go {w w' w'' : World} {N : Nat} {K S P V : Int} {T : ByteArray} {n cc : Nat} {ac : Option Addr} {L : List In4} {xs : List Int} {C A B : Nat} (h : EnviU w w' N K S P V T n cc ac L xs C A) (hb : Below B w' w'') (h1 : N + 1 < B) (h2 : C < B) (h3 : A < B) (h4 : w.heap.size ≤ B) : EnviU w w'' N K S P V T n cc ac L xs C A :=
  ⟨at6_below h.p hb (by omega), at6_below h.q hb h1, h.le.below hb h2, h.ro.below hb h3, h.be.trans (hb.mono h4)⟩

set_option maxRecDepth 100000 in
set_option maxHeartbeats 8000000 in
theorem units_walk (K S P V : Int) (T : ByteArray) (L : List In4) (ac aa : Option Addr) (cc ca : Nat) (xs : List Int) (fuel : Int) (w : World) (hH : HeldIns w ac L) (hA : HeldI w aa xs) (hT : Tab w) (hw0 : 0 < w.heap.size) (hn : L.length * 32 ≤ 140737488351232) (hl : xs.length * 8 ≤ 140737488351232) (hs : T.size ≤ maxLen) :
    Calls Tryd.prog 5 #[.agg #[.int .i64 K, .int .i64 S, .int .i64 P, .int .i64 V, .slice ac L.length cc, .string T], .slice aa xs.length ca, .int .i64 fuel] w fun e w' => e = .returned (.bool true) ∧ Below w.heap.size w w' := by
  obtain ⟨rr, hrr⟩ : ∃ r, r = runU K S P V L T (tabOf T) xs fuel := ⟨_, rfl⟩
  have KL := hide (fun w (h : HeldIns w ac L) => lent_any L ac cc w h hn)
  have KR := hide (fun w (h : HeldI w aa xs) => roomy_any xs aa ca w h hl)
  have KI := hide (fun w a1 c1 a2 c2 (hH : HeldIns w a1 L) (hA : HeldI w a2 xs) (hT : Tab w) (hw0 : 0 < w.heap.size) => machRun_any K S P V L T a1 a2 c1 c2 xs fuel w hH hA hT hw0 (by omega) (by omega) hs)
  have KP := hide (fun w (hH : HeldIns w ac L) (hA : HeldI w aa xs) => runUnit_any K S P V L T ac aa cc ca xs fuel w hH hA (by omega) (by omega) hs)
  rw [← hrr] at KI KP
  obtain ⟨er, sr⟩ := rr
  have KB := hide (fun w g (hH : HeldIns w ac L) (hL : Lent w g L) => back_any L g ac cc w hH hL hn)
  have KW := hide (fun w g (hH : HeldI w aa xs) (hL : Roomy w g xs) => whole_any xs g aa ca w hH hL hl)
  have HH := hide hH
  have HA := hide hA
  have HT := hide hT
  clear hrr hH hA hT
  go_enter Tryd.func5, Tryd.ntmps5
  go_wp2_with fail
  obtain ⟨w1, hw1⟩ : ∃ w1, w1 = (w.alloc (.cells #[.int .i64 K, .int .i64 S, .int .i64 P, .int .i64 V, .slice ac L.length cc, .string T] 26)).alloc (.cells #[.int .i64 K, .int .i64 S, .int .i64 P, .int .i64 V, .slice ac L.length cc, .string T] 26) := ⟨_, rfl⟩
  rw [← hw1]
  have hb1 : Below w.heap.size w w1 := by rw [hw1]; exact ((Below.refl _ _).alloc (Nat.le_refl _) _).alloc (by simp) _
  have hz1 : w.heap.size + 2 ≤ w1.heap.size := by rw [hw1]; simp
  have p : ∀ i, w1.cell? ⟨w.heap.size, i, none⟩ = #[Value.int .i64 K, .int .i64 S, .int .i64 P, .int .i64 V, .slice ac L.length cc, .string T][i]? := fun i => by
    rw [hw1, World.cell?_alloc_past (hn := by simp), World.cell?_alloc_at (hn := rfl)]
  have q : ∀ i, w1.cell? ⟨w.heap.size + 1, i, none⟩ = #[Value.int .i64 K, .int .i64 S, .int .i64 P, .int .i64 V, .slice ac L.length cc, .string T][i]? := fun i => by
    rw [hw1, World.cell?_alloc_at (hn := by simp)]
  have qf : ∀ o, w1.frozen? ⟨w.heap.size + 1, o, none⟩ = false := fun o => by rw [hw1, World.frozen?_alloc_at (hn := by simp)]
  have P' := hide p
  have Q' := hide q
  clear hw1 p q
  refine (unhide KL w1 ((unhide HH).below hb1)).mono ?_
  rintro e w2 ⟨rfl, hle2, hb2⟩
  have c3 : w2.cell? ⟨w.heap.size + 1, 4, none⟩ = some (.slice ac L.length cc) := (hb2.cell (p := ⟨w.heap.size + 1, 4, none⟩) (show w.heap.size + 1 < w1.heap.size by omega)).trans ((unhide Q' 4).trans rfl)
  have f3 : w2.frozen? ⟨w.heap.size + 1, 4, none⟩ = false := (hb2.frozen (p := ⟨w.heap.size + 1, 4, none⟩) (show w.heap.size + 1 < w1.heap.size by omega)).trans (qf 4)
  have HLE2 := hide hle2
  have HB2 := hide hb2
  have hz2 : w1.heap.size < w2.heap.size := hle2.lt
  have HB1 := hide hb1
  clear hle2 hb2 hb1 qf
  go_wp2_with fail
  obtain ⟨w3, hw3⟩ : ∃ w3, w3 = w2.setCell ⟨w.heap.size + 1, 4, none⟩ (.slice (some ⟨w1.heap.size, 0, none⟩) L.length (L.length + 2)) := ⟨_, rfl⟩
  rw [← hw3]
  have hz3 : w2.heap.size ≤ w3.heap.size := by rw [hw3]; simp
  have hk3 : Keep (fun k => k = w.heap.size + 1) w2 w3 := by rw [hw3]; exact keep_set (Keep.refl _ _) _ _
  have HB3 : Hid (Below w.heap.size w w3) := ((unhide HB1).trans ((unhide HB2).mono (by omega))).trans (hk3.below (by omega) (fun k hk e => by omega))
  have HK3 := hide hk3
  have y3 : w3.cell? ⟨w.heap.size + 1, 4, none⟩ = some (.slice (some ⟨w1.heap.size, 0, none⟩) L.length (L.length + 2)) := by rw [hw3]; exact cell_put c3
  have Y3 := hide (fun o (ho : o ≠ 4) => show w3.cell? ⟨w.heap.size + 1, o, none⟩ = w2.cell? ⟨w.heap.size + 1, o, none⟩ by rw [hw3]; exact World.cell?_setCell_other _ _ _ _ (fun e => ho (by injection e with e1 e2; exact e2.symm)))
  clear hw3 c3 f3 hk3
  refine (unhide KR w3 ((unhide HA).below (unhide HB3))).mono ?_
  rintro e w4 ⟨rfl, hro4, hb4⟩
  have hz4 : w3.heap.size < w4.heap.size := hro4.lt
  have HE4 : Hid (EnviU w w4 w.heap.size K S P V T L.length cc ac L xs w1.heap.size w3.heap.size) := by
    have hN : w.heap.size < w1.heap.size := by omega
    have hN1 : w.heap.size + 1 < w1.heap.size := by omega
    have fromP : ∀ i, w4.cell? ⟨w.heap.size, i, none⟩ = w1.cell? ⟨w.heap.size, i, none⟩ := fun i =>
      (hb4.cell (p := ⟨w.heap.size, i, none⟩) (show w.heap.size < w3.heap.size by omega)).trans ((World.cell?_of_block ((unhide HK3).block w.heap.size (by omega) (by omega))).trans ((unhide HB2).cell (p := ⟨w.heap.size, i, none⟩) hN))
    have fromQ : ∀ i, i ≠ 4 → w4.cell? ⟨w.heap.size + 1, i, none⟩ = w1.cell? ⟨w.heap.size + 1, i, none⟩ := fun i hi =>
      (hb4.cell (p := ⟨w.heap.size + 1, i, none⟩) (show w.heap.size + 1 < w3.heap.size by omega)).trans ((unhide Y3 i hi).trans ((unhide HB2).cell (p := ⟨w.heap.size + 1, i, none⟩) hN1))
    have hl3 : Lent w3 w1.heap.size L := ⟨fun i hi => by
        have hbk := (unhide HK3).block w1.heap.size hz2 (by omega)
        obtain ⟨k0, k1, k2, k3⟩ := (unhide HLE2).lie i hi
        exact ⟨(World.cell?_of_block hbk).trans k0, (World.cell?_of_block hbk).trans k1, (World.cell?_of_block hbk).trans k2, (World.cell?_of_block hbk).trans k3⟩,
      (World.cell?_of_block ((unhide HK3).block w1.heap.size hz2 (by omega))).trans (unhide HLE2).m0, (World.cell?_of_block ((unhide HK3).block w1.heap.size hz2 (by omega))).trans (unhide HLE2).m1, by omega⟩
    exact ⟨⟨(fromP 0).trans ((unhide P' 0).trans rfl), (fromP 1).trans ((unhide P' 1).trans rfl), (fromP 2).trans ((unhide P' 2).trans rfl), (fromP 3).trans ((unhide P' 3).trans rfl), (fromP 4).trans ((unhide P' 4).trans rfl), (fromP 5).trans ((unhide P' 5).trans rfl)⟩,
      ⟨(fromQ 0 (by decide)).trans ((unhide Q' 0).trans rfl), (fromQ 1 (by decide)).trans ((unhide Q' 1).trans rfl), (fromQ 2 (by decide)).trans ((unhide Q' 2).trans rfl), (fromQ 3 (by decide)).trans ((unhide Q' 3).trans rfl), (hb4.cell (p := ⟨w.heap.size + 1, 4, none⟩) (show w.heap.size + 1 < w3.heap.size by omega)).trans y3, (fromQ 5 (by decide)).trans ((unhide Q' 5).trans rfl)⟩,
      hl3.below hb4 (by omega), hro4, (unhide HB3).trans (hb4.mono (by omega))⟩
  clear hro4 hb4 y3 Y3 HK3 HB3 HLE2 HB2 HB1 P' Q'
  have HG := hide (fun (w' w'' : World) (h : EnviU w w' w.heap.size K S P V T L.length cc ac L xs w1.heap.size w3.heap.size) (hb : Below w4.heap.size w' w'') => h.go hb (by omega) (by omega) (by omega) (by omega))
  have HI := hide (fun (w' : World) (h : EnviU w w' w.heap.size K S P V T L.length cc ac L xs w1.heap.size w3.heap.size) (h0 : 0 < w'.heap.size) => unhide KI w' (some ⟨w1.heap.size, 0, none⟩) (L.length + 2) (some ⟨w3.heap.size, 0, none⟩) (xs.length + 2) (.inr ⟨_, 0, rfl, h.le.lt, h.le.lie⟩) (.inr ⟨_, 0, rfl, h.ro.lt, fun i hi => by rw [Nat.zero_add]; exact h.ro.lie i hi⟩) ((unhide HT).below h.be hw0) h0)
  obtain ⟨s0, s1, s2, s3, s4, s5⟩ := (unhide HE4).q
  go_wp2_with fail
  refine (unhide HI w4 (unhide HE4) (by omega)).mono ?_
  rintro e w5 ⟨v1, rfl, hr1, hb5⟩
  obtain ⟨a1, c1, d1, f1, rfl⟩ := hr1.shape
  have HR1 := hide hr1
  have HB5 := hide hb5
  have hz5 : w4.heap.size ≤ w5.heap.size := hb5.size
  have HE5 : Hid (EnviU w w5 w.heap.size K S P V T L.length cc ac L xs w1.heap.size w3.heap.size) := unhide HG w4 w5 (unhide HE4) hb5
  clear hr1 hb5 s0 s1 s2 s3 s4 s5
  obtain ⟨s0, s1, s2, s3, s4, s5⟩ := (unhide HE5).q
  have n5 : w.heap.size + 1 < w5.heap.size := by omega
  go_wp2_with fail
  obtain ⟨w6, hw6⟩ : ∃ w6, w6 = w5.alloc (.cells #[.int .i64 sr.kind, .int .i64 sr.val, .int .i64 (sr.steps : Int), .slice a1 sr.outs.length c1, .slice d1 sr.stops.length f1] 37) := ⟨_, rfl⟩
  rw [← hw6]
  have hb56 : Below w5.heap.size w5 w6 := by rw [hw6]; exact (Below.refl _ _).alloc (Nat.le_refl _) _
  have HX1 : Hid (w6.heap[w5.heap.size]? = some (.cells #[.int .i64 sr.kind, .int .i64 sr.val, .int .i64 (sr.steps : Int), .slice a1 sr.outs.length c1, .slice d1 sr.stops.length f1] 37 (0, 0))) := by rw [hw6]; exact heap_alloc_new _ _
  have hz6 : w5.heap.size < w6.heap.size := by rw [hw6]; simp
  have HE6 : Hid (EnviU w w6 w.heap.size K S P V T L.length cc ac L xs w1.heap.size w3.heap.size) := unhide HG w5 w6 (unhide HE5) (hb56.mono hz5)
  have HB56 := hide hb56
  clear hw6 hb56 HE4 HB5 HE5 s0 s1 s2 s3 s4 s5 n5
  refine (unhide HI w6 (unhide HE6) (by omega)).mono ?_
  rintro e w7 ⟨v2, rfl, hr2, hb7⟩
  obtain ⟨a2, c2, d2, f2, rfl⟩ := hr2.shape
  have HR2 := hide hr2
  have HB7 := hide hb7
  have hz7 : w6.heap.size ≤ w7.heap.size := hb7.size
  have HE7 : Hid (EnviU w w7 w.heap.size K S P V T L.length cc ac L xs w1.heap.size w3.heap.size) := unhide HG w6 w7 (unhide HE6) (hb7.mono (by omega))
  clear hr2 hb7
  obtain ⟨s0, s1, s2, s3, s4, s5⟩ := (unhide HE7).p
  have n7 : w.heap.size < w7.heap.size := by omega
  go_wp2_with fail
  obtain ⟨w8, hw8⟩ : ∃ w8, w8 = w7.alloc (.cells #[.int .i64 sr.kind, .int .i64 sr.val, .int .i64 (sr.steps : Int), .slice a2 sr.outs.length c2, .slice d2 sr.stops.length f2] 37) := ⟨_, rfl⟩
  rw [← hw8]
  have hb78 : Below w7.heap.size w7 w8 := by rw [hw8]; exact (Below.refl _ _).alloc (Nat.le_refl _) _
  have HX2 : Hid (w8.heap[w7.heap.size]? = some (.cells #[.int .i64 sr.kind, .int .i64 sr.val, .int .i64 (sr.steps : Int), .slice a2 sr.outs.length c2, .slice d2 sr.stops.length f2] 37 (0, 0))) := by rw [hw8]; exact heap_alloc_new _ _
  have hz8 : w7.heap.size < w8.heap.size := by rw [hw8]; simp
  have HB78 := hide hb78
  have HE8 : Hid (EnviU w w8 w.heap.size K S P V T L.length cc ac L xs w1.heap.size w3.heap.size) := unhide HG w7 w8 (unhide HE7) (hb78.mono (by omega))
  clear hw8 hb78 HE6 HE7 s0 s1 s2 s3 s4 s5 n7
  refine (unhide KP w8 ((unhide HH).below (unhide HE8).be) ((unhide HA).below (unhide HE8).be)).mono ?_
  rintro e w9 ⟨v3, rfl, hr3, hb9⟩
  obtain ⟨a3, c3, d3, f3, rfl⟩ := hr3.shape
  have HR3 := hide hr3
  have HB9 := hide hb9
  have hz9 : w8.heap.size ≤ w9.heap.size := hb9.size
  have b69 : Below w6.heap.size w6 w9 := ((unhide HB7).trans ((unhide HB78).mono (by omega))).trans (hb9.mono (by omega))
  obtain ⟨g0, g1, g2, g3, g4⟩ := five ((b69.block w5.heap.size (by omega)).trans (unhide HX1))
  have n9 : w5.heap.size < w9.heap.size := by omega
  clear hr3 hb9 b69
  go_wp2_with fail
  obtain ⟨w10, hw10⟩ : ∃ w10, w10 = w9.alloc (.cells #[.int .i64 sr.kind, .int .i64 sr.val, .int .i64 (sr.steps : Int), .slice a3 sr.outs.length c3, .slice d3 sr.stops.length f3] 37) := ⟨_, rfl⟩
  rw [← hw10]
  have hb910 : Below w9.heap.size w9 w10 := by rw [hw10]; exact (Below.refl _ _).alloc (Nat.le_refl _) _
  have HX3 : Hid (w10.heap[w9.heap.size]? = some (.cells #[.int .i64 sr.kind, .int .i64 sr.val, .int .i64 (sr.steps : Int), .slice a3 sr.outs.length c3, .slice d3 sr.stops.length f3] 37 (0, 0))) := by rw [hw10]; exact heap_alloc_new _ _
  have hz10 : w9.heap.size < w10.heap.size := by rw [hw10]; simp
  have HE10 : Hid (EnviU w w10 w.heap.size K S P V T L.length cc ac L xs w1.heap.size w3.heap.size) := unhide HG w9 w10 (unhide HG w8 w9 (unhide HE8) ((unhide HB9).mono (by omega))) (hb910.mono (by omega))
  -- from each world in which a thing was made to the tenth
  have b510 : Below w6.heap.size w6 w10 := ((unhide HB7).trans ((unhide HB78).mono (by omega))).trans (((unhide HB9).mono (by omega)).trans (hb910.mono (by omega)))
  have b810 : Below w8.heap.size w8 w10 := (unhide HB9).trans (hb910.mono (by omega))
  have Y1 : Hid (w10.heap[w5.heap.size]? = some (.cells #[.int .i64 sr.kind, .int .i64 sr.val, .int .i64 (sr.steps : Int), .slice a1 sr.outs.length c1, .slice d1 sr.stops.length f1] 37 (0, 0))) := (b510.block _ (by omega)).trans (unhide HX1)
  have Y2 : Hid (w10.heap[w7.heap.size]? = some (.cells #[.int .i64 sr.kind, .int .i64 sr.val, .int .i64 (sr.steps : Int), .slice a2 sr.outs.length c2, .slice d2 sr.stops.length f2] 37 (0, 0))) := (b810.block _ (by omega)).trans (unhide HX2)
  have T1 : Hid (ResOf w10 w4.heap.size (.agg #[.int .i64 sr.kind, .int .i64 sr.val, .int .i64 (sr.steps : Int), .slice a1 sr.outs.length c1, .slice d1 sr.stops.length f1]) sr) := ((unhide HR1).below (unhide HB56)).below b510
  have T2 : Hid (ResOf w10 w6.heap.size (.agg #[.int .i64 sr.kind, .int .i64 sr.val, .int .i64 (sr.steps : Int), .slice a2 sr.outs.length c2, .slice d2 sr.stops.length f2]) sr) := ((unhide HR2).below (unhide HB78)).below b810
  have T3 : Hid (ResOf w10 w8.heap.size (.agg #[.int .i64 sr.kind, .int .i64 sr.val, .int .i64 (sr.steps : Int), .slice a3 sr.outs.length c3, .slice d3 sr.stops.length f3]) sr) := (unhide HR3).below hb910
  have b5x : Below w5.heap.size w5 w10 := (unhide HB56).trans (b510.mono (by omega))
  have b7x : Below w7.heap.size w7 w10 := (unhide HB78).trans (b810.mono (by omega))
  have B5X := hide b5x
  have B7X := hide b7x
  clear g0 g1 g2 g3 g4 n9
  clear hw10 hb910 b510 b810 b5x b7x HX1 HX2 HB7 HB78 HB9 HB56 HE8 KI KP HI KL KR
  refine (sameResult_any sr _ _ _ _ w10 (unhide T1) (unhide T3)).mono ?_
  rintro e w11 ⟨rfl, hb11⟩
  have hz11 : w10.heap.size ≤ w11.heap.size := hb11.size
  have Z1 : Hid (w11.heap[w5.heap.size]? = some (.cells #[.int .i64 sr.kind, .int .i64 sr.val, .int .i64 (sr.steps : Int), .slice a1 sr.outs.length c1, .slice d1 sr.stops.length f1] 37 (0, 0))) := (hb11.block _ (by omega)).trans (unhide Y1)
  have Z2 : Hid (w11.heap[w7.heap.size]? = some (.cells #[.int .i64 sr.kind, .int .i64 sr.val, .int .i64 (sr.steps : Int), .slice a2 sr.outs.length c2, .slice d2 sr.stops.length f2] 37 (0, 0))) := (hb11.block _ (by omega)).trans (unhide Y2)
  have Z3 : Hid (w11.heap[w9.heap.size]? = some (.cells #[.int .i64 sr.kind, .int .i64 sr.val, .int .i64 (sr.steps : Int), .slice a3 sr.outs.length c3, .slice d3 sr.stops.length f3] 37 (0, 0))) := (hb11.block _ (by omega)).trans (unhide HX3)
  have U2 : Hid (ResOf w11 w6.heap.size (.agg #[.int .i64 sr.kind, .int .i64 sr.val, .int .i64 (sr.steps : Int), .slice a2 sr.outs.length c2, .slice d2 sr.stops.length f2]) sr) := (unhide T2).below hb11
  have U3 : Hid (ResOf w11 w8.heap.size (.agg #[.int .i64 sr.kind, .int .i64 sr.val, .int .i64 (sr.steps : Int), .slice a3 sr.outs.length c3, .slice d3 sr.stops.length f3]) sr) := (unhide T3).below hb11
  have HE11 : Hid (EnviU w w11 w.heap.size K S P V T L.length cc ac L xs w1.heap.size w3.heap.size) := unhide HG w10 w11 (unhide HE10) (hb11.mono (by omega))
  have B5Y : Hid (Below w5.heap.size w5 w11) := (unhide B5X).trans (hb11.mono (by omega))
  have B7Y : Hid (Below w7.heap.size w7 w11) := (unhide B7X).trans (hb11.mono (by omega))
  clear hb11 T1 T2 T3 Y1 Y2 HX3 HE10 B5X B7X
  obtain ⟨g0, g1, g2, g3, g4⟩ := five (unhide Z1)
  go_wp2_with fail
  refine (spent_res (unhide HR1) w11 (unhide B5Y)).mono ?_
  rintro e w12 ⟨rfl, hk12⟩
  have hz12 : w11.heap.size ≤ w12.heap.size := hk12.size
  have hb12 : Below w4.heap.size w11 w12 := hk12.below (by omega) (fun k hk e => by omega)
  have X2 : Hid (w12.heap[w7.heap.size]? = some (.cells #[.int .i64 sr.kind, .int .i64 sr.val, .int .i64 (sr.steps : Int), .slice a2 sr.outs.length c2, .slice d2 sr.stops.length f2] 37 (0, 0))) := (hk12.block _ (by omega) (by omega)).trans (unhide Z2)
  have X3 : Hid (w12.heap[w9.heap.size]? = some (.cells #[.int .i64 sr.kind, .int .i64 sr.val, .int .i64 (sr.steps : Int), .slice a3 sr.outs.length c3, .slice d3 sr.stops.length f3] 37 (0, 0))) := (hk12.block _ (by omega) (by omega)).trans (unhide Z3)
  have V2 : Hid (ResOf w12 w6.heap.size (.agg #[.int .i64 sr.kind, .int .i64 sr.val, .int .i64 (sr.steps : Int), .slice a2 sr.outs.length c2, .slice d2 sr.stops.length f2]) sr) := (unhide U2).keep hk12 (fun k hk e => by omega)
  have V3 : Hid (ResOf w12 w8.heap.size (.agg #[.int .i64 sr.kind, .int .i64 sr.val, .int .i64 (sr.steps : Int), .slice a3 sr.outs.length c3, .slice d3 sr.stops.length f3]) sr) := (unhide U3).keep hk12 (fun k hk e => by omega)
  have HE12 : Hid (EnviU w w12 w.heap.size K S P V T L.length cc ac L xs w1.heap.size w3.heap.size) := unhide HG w11 w12 (unhide HE11) hb12
  clear hb12 hk12 g0 g1 g2 g3 g4 Z1 Z2 Z3 U2 U3 HE11 B5Y HR1 B7Y
  obtain ⟨g0, g1, g2, g3, g4⟩ := five (unhide X2)
  obtain ⟨k0, k1, k2, k3, k4⟩ := five (unhide X3)
  go_wp2_with fail
  refine (sameResult_any sr _ _ _ _ w12 (unhide V2) (unhide V3)).mono ?_
  rintro e w13 ⟨rfl, hb13⟩
  have X2' : Hid (w13.heap[w7.heap.size]? = some (.cells #[.int .i64 sr.kind, .int .i64 sr.val, .int .i64 (sr.steps : Int), .slice a2 sr.outs.length c2, .slice d2 sr.stops.length f2] 37 (0, 0))) := (hb13.block _ (by omega)).trans (unhide X2)
  have V2' := hide ((unhide V2).below hb13)
  have HE13 : Hid (EnviU w w13 w.heap.size K S P V T L.length cc ac L xs w1.heap.size w3.heap.size) := unhide HG w12 w13 (unhide HE12) (hb13.mono (by omega))
  clear hb13 g0 g1 g2 g3 g4 k0 k1 k2 k3 k4 V2 V3 X2 X3 HE12
  obtain ⟨g0, g1, g2, g3, g4⟩ := five (unhide X2')
  go_wp2_with fail
  refine (spent_res (unhide V2') w13 (Below.refl _ _)).mono ?_
  rintro e w14 ⟨rfl, hk14⟩
  have HE14 : Hid (EnviU w w14 w.heap.size K S P V T L.length cc ac L xs w1.heap.size w3.heap.size) := unhide HG w13 w14 (unhide HE13) (hk14.below (by have := (unhide HE13).le.lt; have := hk14.size; exact Nat.le_of_lt (by have := World.block_lt_of_cell? w13 ⟨w7.heap.size, 0, none⟩ g0; show w4.heap.size < w13.heap.size; exact Nat.lt_of_le_of_lt (show w4.heap.size ≤ w7.heap.size by omega) this)) (fun k hk e => by omega))
  clear hk14 g0 g1 g2 g3 g4 X2' V2' HE13
  have t0 := (unhide HE14).p.2.2.2.2.1
  have t1 := (unhide HE14).q.2.2.2.2.1
  go_wp2_with fail
  refine (unhide KB w14 _ ((unhide HH).below (unhide HE14).be) (unhide HE14).le).mono ?_
  rintro e w15 ⟨rfl, hb15⟩
  have HE15 : Hid (EnviU w w15 w.heap.size K S P V T L.length cc ac L xs w1.heap.size w3.heap.size) := (unhide HE14).go hb15 (World.block_lt_of_cell? w14 ⟨w.heap.size + 1, 4, none⟩ t1) (unhide HE14).le.lt (unhide HE14).ro.lt (unhide HE14).be.size
  clear hb15 t0 t1 HE14
  go_wp2_with fail
  refine (unhide KW w15 _ ((unhide HA).below (unhide HE15).be) (unhide HE15).ro).mono ?_
  rintro e w16 ⟨rfl, hb16⟩
  have HB16 : Hid (Below w.heap.size w w16) := (unhide HE15).be.trans (hb16.mono (unhide HE15).be.size)
  clear hb16 HE15
  go_wp2_with fail
  go_ret
  exact ⟨rfl, unhide HB16⟩
end Go.Proofs.YtoepcplbpochpaaDoor
