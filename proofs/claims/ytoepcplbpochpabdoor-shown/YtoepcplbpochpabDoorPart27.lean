/-
  The walk through lodgekeep.Shown.
-/
import Derived.Test.YtoepcplbpochpabDoorPart25
import Derived.Test.YtoepcplbpochpabDoorPart26
import Derived.Test.YtoepcplbpochpabDoorPart12
import Derived.Deep.Slices
import Derived.ProofKit
import Derived.LaidMore
import Derived.OpenShut
import Derived.Stop.Joined
import Derived.SizedLaws

namespace Go.Proofs.YtoepcplbpochpabDoor
open Go.RowKit

/-- The args and the table, through whatever is written to younger blocks. -/
structure Base5 (w5 : World) (aa : Option Addr) (xs : List Int) : Prop where
  args : HeldI w5 aa xs
  tab : Tab w5
  pos : 0 < w5.heap.size
theorem heldI_later {w w' : World} {aa : Option Addr} {xs : List Int} (h : HeldI w aa xs) (hb : Below w.heap.size w w') : HeldI w' aa xs := h.below hb
/-- A program at Nq that owns its code. -/
structure ProgO (w : World) (Nq base : Nat) (P R V : Nat) (L : List In4) (so : Option Addr) (sc : Nat) : Prop where
  prog : ProgB w Nq P R V (.slice so L.length sc)
  own : w.ownsRow base 31 4 (.slice so L.length sc) L.length (insCells L)
  lt : Nq < base
theorem ProgO.below {w w' : World} {Nq base P R V : Nat} {L : List In4} {so : Option Addr} {sc : Nat} (h : ProgO w Nq base P R V L so sc) (hb : Below w.heap.size w w') : ProgO w' Nq base P R V L so sc :=
  ⟨(hb.block Nq (Array.getElem?_eq_some_iff.1 h.prog).1).trans h.prog, own_keep h.own (Keep.of_below hb (fun _ => False)) (fun _ _ h => h), h.lt⟩
theorem ProgO.aside {w w' : World} {Nq base P R V : Nat} {L : List In4} {so : Option Addr} {sc : Nat} (h : ProgO w Nq base P R V L so sc) {g : Nat} (hk : Keep (fun j => j = g) w w') (h1 : Nq ≠ g) (h2 : g < base) : ProgO w' Nq base P R V L so sc :=
  ⟨(hk.block Nq (Array.getElem?_eq_some_iff.1 h.prog).1 h1).trans h.prog, own_keep h.own hk (fun k hk e => by have := (own_in h.own k hk).1; omega), h.lt⟩
theorem ProgO.lab {w5 w : World} {Nq base P R V : Nat} {L : List In4} {so : Option Addr} {sc : Nat} (h : ProgO w Nq base P R V L so sc) {aa : Option Addr} {xs : List Int} (h5 : Base5 w5 aa xs) (hb : Below w5.heap.size w5 w) : LabP w Nq P R V L so sc aa xs :=
  ⟨h.prog, held_own h.own, h5.args.below hb, h5.tab.below hb h5.pos, by have := hb.size; have := h5.pos; omega⟩
/-- Its unit at Nu, which owns its code. -/
structure UnitO (w : World) (Nu base : Nat) (P R V K : Nat) (L : List In4) (uo : Option Addr) (uc : Nat) : Prop where
  unit : UnB w Nu K (slotsB L P R K) P V (.slice uo (cmpC P R K L).length uc) (encT (cmpR P R V K L))
  own : w.ownsRow base 31 4 (.slice uo (cmpC P R K L).length uc) (cmpC P R K L).length (insCells (cmpC P R K L))
theorem UnitO.below {w w' : World} {Nu base P R V K : Nat} {L : List In4} {uo : Option Addr} {uc : Nat} (h : UnitO w Nu base P R V K L uo uc) (hb : Below w.heap.size w w') : UnitO w' Nu base P R V K L uo uc :=
  ⟨h.unit.below hb (Array.getElem?_eq_some_iff.1 h.unit).1, own_keep h.own (Keep.of_below hb (fun _ => False)) (fun _ _ h => h)⟩
theorem UnitO.aside {w w' : World} {Nu base P R V K : Nat} {L : List In4} {uo : Option Addr} {uc : Nat} (h : UnitO w Nu base P R V K L uo uc) {g : Nat} (hk : Keep (fun j => j = g) w w') (h1 : Nu ≠ g) (h2 : g < base) : UnitO w' Nu base P R V K L uo uc :=
  ⟨(hk.block Nu (Array.getElem?_eq_some_iff.1 h.unit).1 h1).trans h.unit, own_keep h.own hk (fun k hk e => by have := (own_in h.own k hk).1; omega)⟩
theorem UnitO.lab {w : World} {Nu base P R V K : Nat} {L : List In4} {uo : Option Addr} {uc : Nat} (h : UnitO w Nu base P R V K L uo uc) : LabU w Nu P R V K L uo uc := ⟨h.unit, held_own h.own⟩
/-- A result stored over another. -/
theorem res_over {w w6 : World} {N : Nat} {s : St} {e : Ending} {z0 z1 z2 z3 z4 : Value} (hN : w6.heap[N]? = some (.cells #[z0, z1, z2, z3, z4] 38 (0, 0))) (hNw : N < w.heap.size) (h : RunPost w (0, s) e w6) : ∃ oo oc so sc, e = .returned (.tuple #[.agg #[.int .i64 s.kind, .int .i64 s.val, .int .i64 (s.steps : Int), .slice oo s.outs.length oc, .slice so s.stops.length sc], .int .i64 0]) ∧ Below w.heap.size w w6 ∧
    ∃ w7, w7 = ((((w6.setCell ⟨N, 0, none⟩ (.int .i64 s.kind)).setCell ⟨N, 1, none⟩ (.int .i64 s.val)).setCell ⟨N, 2, none⟩ (.int .i64 (s.steps : Int))).setCell ⟨N, 3, none⟩ (.slice oo s.outs.length oc)).setCell ⟨N, 4, none⟩ (.slice so s.stops.length sc) ∧ Hid (ResAt w7 N w.heap.size s oo oc so sc) ∧ Hid (Keep (fun j => j = N) w6 w7) := by
  obtain ⟨v, rfl, ⟨vo, vs, rfl, ho, hs⟩, hb⟩ := h
  obtain ⟨oo, oc, rfl, _, _⟩ := own_heldI ho
  obtain ⟨so, sc, rfl, _, _⟩ := own_heldS hs
  have hk : Keep (fun j => j = N) w6 (((((w6.setCell ⟨N, 0, none⟩ (.int .i64 s.kind)).setCell ⟨N, 1, none⟩ (.int .i64 s.val)).setCell ⟨N, 2, none⟩ (.int .i64 (s.steps : Int))).setCell ⟨N, 3, none⟩ (.slice oo s.outs.length oc)).setCell ⟨N, 4, none⟩ (.slice so s.stops.length sc)) := keep_set (keep_set (keep_set (keep_set (keep_set (Keep.refl _ _) _ _) _ _) _ _) _ _) _ _
  refine ⟨oo, oc, so, sc, rfl, hb, _, rfl, ⟨set5 hN _ _ _ _ _, ?_, ?_⟩, hk⟩
  · exact own_keep ho hk (fun k hk e => by have := (own_in ho k hk).1; omega)
  · exact own_keep hs hk (fun k hk e => by have := (own_in hs k hk).1; omega)

set_option maxRecDepth 100000 in
set_option maxHeartbeats 8000000 in
theorem shown_walk (P0 R0 V0 : Int) (L0 : List In4) (ac : Option Addr) (cc : Nat) (k : Int) (nums : List Int) (na : Option Addr) (nc : Nat) (n val : Int) (w : World) (hH : HeldIns w ac L0) (hv : RngI L0) (hP0 : Rng P0) (hR0 : Rng R0) (hV0 : Rng V0) (hl : L0.length ≤ 9223372036854775807) (hcc : L0.length ≤ cc)
    (hA : HeldI w na nums) (hnv : ∀ i, i < nums.length → Rng (nth nums i)) (hnl : nums.length ≤ 9223372036854775807) (hk : Rng k) (hn : Rng n) (hvl : Rng val) (hT : Tab w) (hw0 : 0 < w.heap.size) :
    Calls Tryd.prog 3 #[.agg #[.int .i64 P0, .int .i64 R0, .int .i64 V0, .slice ac L0.length cc], .int .i64 k, .slice na nums.length nc, .int .i64 n, .int .i64 val] w fun e w' => e = .returned (.bool true) ∧ Below w.heap.size w w' := by
  have bn := pick_lt n 25000 (by decide)
  have bc := pick_lt val 65536 (by decide)
  obtain ⟨f, hfe⟩ : ∃ f : Nat, (f : Int) = pickI n 25000 := ⟨(pickI n 25000).toNat, by omega⟩
  obtain ⟨c, hce⟩ : ∃ c : Int, c = pickI val 65536 := ⟨_, rfl⟩
  have hf : f < 25000 := by omega
  have hc : 0 ≤ c ∧ c ≤ 65535 := by omega
  have HFE := hide hfe
  have HCEq := hide hce
  clear hfe hce bn bc
  have KP := hide (fun (c n : Int) (w : World) (h : Rng c) (hn : 0 < n) => pick_any c n w h.1 h.2 hn)
  obtain ⟨w1, hw1, HP1, HL1, hz1⟩ := box_prog w P0 R0 V0 (.slice ac L0.length cc)
  have HW := hide hw1
  have KR := hide (right_any P0 R0 V0 L0 ac cc 38 11 w1 (hH.below' (unhide HL1)) hv hP0 hR0 hV0 hl hcc (by omega) (by omega) (by omega) (by omega))
  have HT := hide hT
  have HN := hide hA
  have HNV := hide hnv
  clear hw1 hH hT hA hnv
  have bK := pick_lt k 15 (by decide)
  obtain ⟨K, hKe⟩ : ∃ K : Nat, (K : Int) = 2 + pickI k 15 := ⟨(2 + pickI k 15).toNat, by omega⟩
  have hK : 2 ≤ K := by omega
  have hK' : K ≤ 16 := by omega
  have HKE := hide hKe
  clear hKe
  go_enter Tryd.func3, Tryd.ntmps3
  go_upto_region 1 with fail
  rw [← unhide HW]
  have p0 := (unhide HP1).c0
  have p1 := (unhide HP1).c1
  have p2 := (unhide HP1).c2
  have p3 := (unhide HP1).c3
  go_wp2_with fail
  refine (unhide KR).mono ?_
  rintro _ w2 ⟨P, R, V, L, ao, cap, rfl, hp, hR11, hL38, hown, hb2⟩
  clear p0 p1 p2 p3 KR HP1 HW
  have hz2 := hb2.size
  obtain ⟨w3, hw3, HP3, HL3', hz3⟩ := box_prog w2 P R V (.slice ao L.length cap)
  have HL3 : Hid (Below w.heap.size w w3) := ((unhide HL1).trans (hb2.mono (by omega))).trans ((unhide HL3').mono (by omega))
  have HC3 : Hid (HeldIns w3 ao L) := (held_own hown).below' (unhide HL3')
  have HW3 := hide hw3
  clear hw3 hb2 hown HL1 HL3'
  go_upto_region 2 with fail
  rw [← unhide HW3]
  go_wp2_with fail
  refine (unhide KP k 15 _ hk (by decide)).mono ?_
  rintro _ w4 ⟨rfl, hw4⟩
  rw [hw4]
  clear hw4
  have q0 := (unhide HP3).c0
  go_wp2_with fail
  rw [← unhide HKE]
  have hP4 : P ≤ 4 := by have := hp.p4; omega
  refine (fit_any nums na nc P w3 ((unhide HN).below (unhide HL3)) (unhide HNV) hnl hP4).mono ?_
  rintro _ w5 ⟨va, rfl, hown5, hb5⟩
  have hx : ArgsOk (fitTo nums P) P := fit_args
  obtain ⟨aa, ca, hve, hA5, _⟩ := own_heldI (xs := fitTo nums P) (by rw [fitTo_len]; exact hown5)
  subst hve
  obtain ⟨xs, hxs⟩ : ∃ xs, xs = fitTo nums P := ⟨_, rfl⟩
  rw [← hxs] at hx hA5
  rw [← hxs]
  have hz35 : w2.heap.size < w5.heap.size := by have := hb5.size; omega
  have H5 : Hid (Base5 w5 aa xs) := ⟨hA5, ((unhide HT).below (unhide HL3) hw0).below hb5 (by omega), by omega⟩
  have HP5 : Hid (ProgB w5 w2.heap.size P R V (.slice ao L.length cap)) := (hb5.block _ (by omega)).trans (unhide HP3)
  have HC5 := hide ((unhide HC3).below' hb5)
  have HL5 : Hid (Below w.heap.size w w5) := (unhide HL3).trans (hb5.mono (unhide HL3).size)
  clear hown5 hA5 hb5 HP3 HC3 HL3 hxs HW3 q0 HN HNV HT
  go_wp2_with fail
  refine (unhide KP n 25000 _ hn (by decide)).mono ?_
  rintro _ w6 ⟨rfl, hw6⟩
  rw [hw6, ← unhide HFE]
  clear hw6
  go_wp2_with fail
  refine (unhide KP val 65536 _ hvl (by decide)).mono ?_
  rintro _ w6 ⟨rfl, hw6⟩
  rw [hw6, ← unhide HCEq]
  clear hw6
  -- the first program
  have hq1 := tie_right hp hL38 hc.1 hc.2
  obtain ⟨w6, hw6⟩ : ∃ w6, w6 = w5.alloc (.cells #[.int .i64 13, .int .i64 0, .int .i64 c, .int .i64 0] 31) := ⟨_, rfl⟩
  have HL6' : Hid (Below w5.heap.size w5 w6) := by rw [hw6]; exact below_alloc _ _
  have HF6 : Hid (HeldIns w6 (some ⟨w5.heap.size, 0, none⟩) (tieF c)) := by
    rw [hw6]
    exact .inr ⟨w5.heap.size, 0, rfl, by simp, fun i hi => by
      have : i = 0 := by have : i < 1 := hi; omega
      subst this
      exact at4_new w5 ⟨13, 0, c, 0⟩ w5.heap.size rfl⟩
  have hz6 : w6.heap.size = w5.heap.size + 1 := by rw [hw6]; simp
  have HW6 := hide hw6
  clear hw6
  have KG := hide (grown_any P R V L (tieF c) (-1) R ao (some ⟨w5.heap.size, 0, none⟩) cap 1 w6 hp ((unhide HC5).below' (unhide HL6')) (unhide HF6) (by show 1 ≤ 1; omega) (by show 1 ≤ 2; omega) (.inl ⟨rfl, rfl⟩))
  rw [show (tieF c).length = 1 from rfl] at KG
  have q0 := (unhide HP5).c0
  have q1 := (unhide HP5).c1
  have q2 := (unhide HP5).c2
  have q3 := (unhide HP5).c3
  go_wp2_with fail
  rw [← unhide HW6]
  refine (unhide KG).mono ?_
  rintro _ w7 ⟨so, sc, rfl, hown7, hb7⟩
  have hz7 := hb7.size
  obtain ⟨w8, hw8, HQ8, HL8', hz8⟩ := box_prog w7 P R (1 : Int) (.slice so (grL (tieF c) (-1) L).length sc)
  have HB8 : Hid (Below w5.heap.size w5 w8) := ((unhide HL6').trans (hb7.mono (by omega))).trans ((unhide HL8').mono (by omega))
  have HO8 : Hid (ProgO w8 w7.heap.size (w7.heap.size + 0) P R 1 (grL (tieF c) (-1) L) so sc ∨ True) := .inr trivial
  have HH8 : Hid (HeldIns w8 so (grL (tieF c) (-1) L)) := (held_own hown7).below' (unhide HL8')
  have HLP8 : Hid (LabP w8 w7.heap.size P R 1 (grL (tieF c) (-1) L) so sc aa xs) := ⟨unhide HQ8, unhide HH8, (unhide H5).args.below (unhide HB8), (unhide H5).tab.below (unhide HB8) (unhide H5).pos, by omega⟩
  have HW8 := hide hw8
  clear hw8 hb7 hown7 HL6' HF6 HL8' HQ8 HH8 HO8 q0 q1 q2 q3 KG HW6
  obtain ⟨L1, hL1⟩ : ∃ L1, L1 = grL (tieF c) (-1) L := ⟨_, rfl⟩
  rw [← hL1] at HLP8 HW8 hq1
  rw [← hL1]
  have hTL : ∀ m n, n < (runSt (cmpC P R K L1) m (stU (cmpR P R 1 K L1) none xs)).stops.length → (snAt (runSt (cmpC P R K L1) m (stU (cmpR P R 1 K L1) none xs)).stops n).v 0 = c := fun m => by rw [hL1]; exact tie_told hp hL38 hK hK' hc.1 hc.2 hx m
  clear hL1
  have KY := hide (ready_any P R 1 K L1 so aa sc ca xs w8 hq1 hK hK' hx (unhide HLP8).code (unhide HLP8).args (unhide HLP8).tab (unhide HLP8).pos)
  rw [show ((1 : Nat) : Int) = 1 from rfl] at KY
  go_upto_region 7 with fail
  rw [← unhide HW8]
  have q0 := (unhide HLP8).prog.c0
  have q1 := (unhide HLP8).prog.c1
  have q2 : w8.cell? ⟨w7.heap.size, 2, none⟩ = some (.int .i64 1) := (unhide HLP8).prog.c2
  have q3 := (unhide HLP8).prog.c3
  go_wp2_with fail
  refine (unhide KY).mono ?_
  rintro _ w9 ⟨uo, uc, rfl, hH9, _, hb9⟩
  unfold unitV
  rw [show ((1 : Nat) : Int) = 1 from rfl]
  clear q0 q1 q2 q3 KY
  have hz9 := hb9.size
  obtain ⟨w10, hw10, HU10', HL10', hz10⟩ := box_unit w9 K (slotsB L1 P R K) P (1 : Int) (.slice uo (cmpC P R K L1).length uc) (encT (cmpR P R 1 K L1))
  have HLU10 : Hid (LabU w10 w9.heap.size P R 1 K L1 uo uc) := ⟨unhide HU10', hH9.below' (unhide HL10')⟩
  have hb810 : Below w8.heap.size w8 w10 := hb9.trans ((unhide HL10').mono hb9.size)
  have HLP10 := hide ((unhide HLP8).below hb810)
  have HB10 : Hid (Below w5.heap.size w5 w10) := (unhide HB8).trans (hb810.mono (by omega))
  have HW10 := hide hw10
  clear hw10 hb9 hb810 hH9 HLP8 HB8 HU10' HL10' HW8
  have KA := hide (fun w (h : LabP w w7.heap.size P R 1 L1 so sc aa xs) => lab_run hq1 hx so aa sc ca f (by omega) w h.code h.args h.tab h.pos)
  have KB := hide (fun w (h : LabP w w7.heap.size P R 1 L1 so sc aa xs) (h' : LabU w w9.heap.size P R 1 K L1 uo uc) => lab_mach hq1 hK hK' hx uo aa uc ca (4 * f + 4) (by omega) w h'.code h.args h.tab h.pos)
  have hGo := (sim_fwd hq1 hK hK' none xs hx.len hx.val f).1.ok
  have hEv := hTL (4 * f + 4)
  obtain ⟨sa, hsa⟩ : ∃ sa, sa = runSt L1 f (st0 xs) := ⟨_, rfl⟩
  obtain ⟨sb, hsb⟩ : ∃ sb, sb = runSt (cmpC P R K L1) (4 * f + 4) (stU (cmpR P R 1 K L1) none xs) := ⟨_, rfl⟩
  rw [← hsa] at KA hGo
  rw [← hsb] at KB hGo hEv
  have KV := hide (fun w b1 v1 (h : ResOf w b1 v1 sb) => every_any sb (sa.stops.length : Int) c b1 v1 w h (by have := hGo.ls; omega) hEv)
  rw [show ((4 * f + 4 : Nat) : Int) = 4 * (f : Int) + 4 by omega] at KB
  rw [show ((1 : Nat) : Int) = 1 from rfl] at KA KB
  have w4f : IntKind.i64.wrap (4 * (f : Int)) = 4 * (f : Int) := by rw [IntKind.wrap_i64]; omega
  have w4f' : IntKind.i64.wrap (4 * (f : Int) + 4) = 4 * (f : Int) + 4 := by rw [IntKind.wrap_i64]; omega
  clear hsa hsb hGo hEv hTL hq1
  obtain ⟨S, hS⟩ : ∃ S, S = slotsB L1 P R K := ⟨_, rfl⟩
  obtain ⟨C, hC⟩ : ∃ C, C = cmpC P R K L1 := ⟨_, rfl⟩
  obtain ⟨T, hTe⟩ : ∃ T, T = encT (cmpR P R 1 K L1) := ⟨_, rfl⟩
  have HSE := hide hS
  have HCE := hide hC
  have HTE := hide hTe
  rw [← hS, ← hC, ← hTe] at KB
  rw [← hS, ← hC, ← hTe] at HW10
  rw [← hS, ← hC, ← hTe]
  clear hS hC hTe
  go_upto_region 8 with fail
  rw [← unhide HW10]
  have q0 := (unhide HLP10).prog.c0
  have q1 := (unhide HLP10).prog.c1
  have q2 : w10.cell? ⟨w7.heap.size, 2, none⟩ = some (.int .i64 1) := (unhide HLP10).prog.c2
  have q3 := (unhide HLP10).prog.c3
  go_wp2_with fail
  refine (unhide KA w10 (unhide HLP10)).mono ?_
  rintro _ w11 hpost
  obtain ⟨o1, c1, o2, c2, rfl, w12, hw12, HA12, HB12', hz11⟩ := after_run hpost
  have HW12 := hide hw12
  have HLP12 := hide ((unhide HLP10).below (unhide HB12'))
  have HLU12 := hide ((unhide HLU10).below (unhide HB12'))
  have HB12 : Hid (Below w5.heap.size w5 w12) := (unhide HB10).trans ((unhide HB12').mono (unhide HB10).size)
  have hz12 := (unhide HA12).lt
  clear hw12 hpost q0 q1 q2 q3 HLP10 HLU10 HB10 HB12' KA HW10
  go_upto_region 11 with fail
  rw [← unhide HW12]
  obtain ⟨u0, u1, u2, u3, u4, u5⟩ := labu_cells (unhide HLU12)
  rw [← unhide HSE] at u1
  rw [show ((1 : Nat) : Int) = 1 from rfl] at u3
  rw [← unhide HCE] at u4
  rw [← unhide HTE] at u5
  go_wp2_with fail
  refine (unhide KB w12 (unhide HLP12) (unhide HLU12)).mono ?_
  rintro _ w13 hpost
  obtain ⟨o3, c3, o4, c4, rfl, w14, hw14, HR14, HB14', hz13⟩ := after_run hpost
  have HW14 := hide hw14
  have HLP14 := hide ((unhide HLP12).below (unhide HB14'))
  have HLU14 := hide ((unhide HLU12).below (unhide HB14'))
  have HA14 := hide ((unhide HA12).below (unhide HB14'))
  have HB14 : Hid (Below w5.heap.size w5 w14) := (unhide HB12).trans ((unhide HB14').mono (unhide HB12).size)
  have hz14 := (unhide HR14).lt
  clear hw14 hpost u0 u1 u2 u3 u4 u5 HLP12 HLU12 HB12 HA12 HB14' KB HW12
  go_upto_region 12 with fail
  rw [← unhide HW14]
  have b0 := (unhide HR14).c0
  have b1 := (unhide HR14).c1
  have b2 := (unhide HR14).c2
  have b3 := (unhide HR14).c3
  have b4 := (unhide HR14).c4
  have a4 := (unhide HA14).c4
  go_wp2_with fail
  refine (unhide KV w14 w12.heap.size _ (unhide HR14).res).mono ?_
  rintro _ w15 ⟨rfl, hb15⟩
  have hz15 := hb15.size
  have HQb : Hid (∃ z0 z1 z2 z3, w15.heap[w7.heap.size]? = some (.cells #[z0, z1, z2, z3] 24 (0, 0))) := ⟨_, _, _, _, (hb15.block _ (Array.getElem?_eq_some_iff.1 (unhide HLP14).prog).1).trans (unhide HLP14).prog⟩
  have HUb : Hid (∃ z0 z1 z2 z3 z4 z5, w15.heap[w9.heap.size]? = some (.cells #[z0, z1, z2, z3, z4, z5] 33 (0, 0))) := ⟨_, _, _, _, _, _, (hb15.block _ (Array.getElem?_eq_some_iff.1 (unhide HLU14).unit).1).trans (unhide HLU14).unit⟩
  have HAb : Hid (∃ z0 z1 z2 z3 z4, w15.heap[w11.heap.size]? = some (.cells #[z0, z1, z2, z3, z4] 38 (0, 0))) := ⟨_, _, _, _, _, (hb15.block _ (unhide HA14).lt).trans (unhide HA14).blk⟩
  have HRb : Hid (∃ z0 z1 z2 z3 z4, w15.heap[w13.heap.size]? = some (.cells #[z0, z1, z2, z3, z4] 38 (0, 0))) := ⟨_, _, _, _, _, (hb15.block _ (unhide HR14).lt).trans (unhide HR14).blk⟩
  have HB15 : Hid (Below w5.heap.size w5 w15) := (unhide HB14).trans (hb15.mono (unhide HB14).size)
  have hord : w5.heap.size ≤ w7.heap.size ∧ w7.heap.size < w9.heap.size ∧ w9.heap.size < w11.heap.size ∧ w11.heap.size < w13.heap.size ∧ w13.heap.size < w15.heap.size := by omega
  clear hb15 b0 b1 b2 b3 b4 a4 HLP14 HLU14 HA14 HR14 HB14 KV HSE HCE HTE HW14 hz7 hz8 hz9 hz10 hz11 hz12 hz13 hz14 hz15
  clear hz6
  -- the second program
  have hq2 := own_right hp hL38 hR11 hc.1 hc.2
  have hOT := own_told hp hL38 hR11 hK hK' hc.1 hc.2 hx f
  have p0 : w15.cell? ⟨w2.heap.size, 0, none⟩ = some (.int .i64 P) := ((unhide HB15).cell (p := ⟨w2.heap.size, 0, none⟩) hz35).trans (unhide HP5).c0
  have p1 : w15.cell? ⟨w2.heap.size, 1, none⟩ = some (.int .i64 R) := ((unhide HB15).cell (p := ⟨w2.heap.size, 1, none⟩) hz35).trans (unhide HP5).c1
  have p2 : w15.cell? ⟨w2.heap.size, 2, none⟩ = some (.int .i64 V) := ((unhide HB15).cell (p := ⟨w2.heap.size, 2, none⟩) hz35).trans (unhide HP5).c2
  have p3 : w15.cell? ⟨w2.heap.size, 3, none⟩ = some (.slice ao L.length cap) := ((unhide HB15).cell (p := ⟨w2.heap.size, 3, none⟩) hz35).trans (unhide HP5).c3
  obtain ⟨w16, hw16⟩ : ∃ w16, w16 = w15.alloc (.cells #[.int .i64 0, .int .i64 R, .int .i64 c, .int .i64 0, .int .i64 12, .int .i64 0, .int .i64 R, .int .i64 0] 31) := ⟨_, rfl⟩
  have HL16' : Hid (Below w15.heap.size w15 w16) := by rw [hw16]; exact below_alloc _ _
  have HF16 : Hid (HeldIns w16 (some ⟨w15.heap.size, 0, none⟩) (ownF R c)) := by
    rw [hw16]
    exact .inr ⟨w15.heap.size, 0, rfl, by simp, fun i hi => by
      have : i = 0 ∨ i = 1 := by have : i < 2 := hi; omega
      rcases this with rfl | rfl
      · refine ⟨?_, ?_, ?_, ?_⟩ <;> (rw [World.cell?_alloc_at (hn := rfl)]; rfl)
      · refine ⟨?_, ?_, ?_, ?_⟩ <;> (rw [World.cell?_alloc_at (hn := rfl)]; rfl)⟩
  have hz16 : w16.heap.size = w15.heap.size + 1 := by rw [hw16]; simp
  have HW16 := hide hw16
  clear hw16
  have HB16 : Hid (Below w5.heap.size w5 w16) := (unhide HB15).trans ((unhide HL16').mono (unhide HB15).size)
  have KG := hide (grown_any P R V L (ownF R c) R (R + 1) ao (some ⟨w15.heap.size, 0, none⟩) cap 2 w16 hp ((unhide HC5).below' (unhide HB16)) (unhide HF16) (by show 1 ≤ 2; omega) (by show 2 ≤ 2; omega) (.inr ⟨rfl, rfl⟩))
  rw [show (ownF R c).length = 2 from rfl] at KG
  go_upto_region 16 with fail
  go_wp2_with fail
  rw [← unhide HW16]
  refine (unhide KG).mono ?_
  rintro _ w17 ⟨so2, sc2, rfl, hown17, hb17⟩
  have hz17 := hb17.size
  have hb1517 : Below w15.heap.size w15 w17 := (unhide HL16').trans (hb17.mono (by omega))
  obtain ⟨z0, z1, z2, z3, hQ15⟩ := unhide HQb
  have hQ17 := (hb1517.block _ (by omega)).trans hQ15
  have y0 : w17.cell? ⟨w7.heap.size, 0, none⟩ = some z0 := (cell_of_row w17 _ 0 _ 24 (0, 0) hQ17).trans rfl
  have y1 : w17.cell? ⟨w7.heap.size, 1, none⟩ = some z1 := (cell_of_row w17 _ 1 _ 24 (0, 0) hQ17).trans rfl
  have y2 : w17.cell? ⟨w7.heap.size, 2, none⟩ = some z2 := (cell_of_row w17 _ 2 _ 24 (0, 0) hQ17).trans rfl
  have y3 : w17.cell? ⟨w7.heap.size, 3, none⟩ = some z3 := (cell_of_row w17 _ 3 _ 24 (0, 0) hQ17).trans rfl
  have yf : ∀ o, w17.frozen? ⟨w7.heap.size, o, none⟩ = false := fun o => by have h := hQ17; simp [World.frozen?, h]
  obtain ⟨L2, hL2⟩ : ∃ L2, L2 = grL (ownF R c) R L := ⟨_, rfl⟩
  rw [← hL2] at hown17 hq2 hOT
  rw [← hL2]
  obtain ⟨w18, hw18⟩ : ∃ w18, w18 = (((w17.setCell ⟨w7.heap.size, 0, none⟩ (.int .i64 P)).setCell ⟨w7.heap.size, 1, none⟩ (.int .i64 ((R : Int) + 1))).setCell ⟨w7.heap.size, 2, none⟩ (.int .i64 1)).setCell ⟨w7.heap.size, 3, none⟩ (.slice so2 L2.length sc2) := ⟨_, rfl⟩
  have hk18 : Keep (fun j => j = w7.heap.size) w17 w18 := by rw [hw18]; exact keep_set (keep_set (keep_set (keep_set (Keep.refl _ _) _ _) _ _) _ _) _ _
  have HO18 : Hid (ProgO w18 w7.heap.size w16.heap.size P (R + 1) 1 L2 so2 sc2) := ⟨by rw [hw18]; exact set4p hQ17 _ _ _ _, own_keep hown17 hk18 (fun k hk e => by have := (own_in hown17 k hk).1; omega), by omega⟩
  have HB18 : Hid (Below w5.heap.size w5 w18) := ((unhide HB15).trans (hb1517.mono (unhide HB15).size)).trans (hk18.below (by omega) (fun k hk e => by omega))
  have hs18 := hk18.size
  obtain ⟨z0', z1', z2', z3', z4', z5', hU15⟩ := unhide HUb
  have hU18 := (hk18.block _ (by omega) (by omega)).trans ((hb1517.block _ (by omega)).trans hU15)
  obtain ⟨a0', a1', a2', a3', a4', hA15⟩ := unhide HAb
  have hA18 := (hk18.block _ (by omega) (by omega)).trans ((hb1517.block _ (by omega)).trans hA15)
  obtain ⟨b0', b1', b2', b3', b4', hR15⟩ := unhide HRb
  have hR18 := (hk18.block _ (by omega) (by omega)).trans ((hb1517.block _ (by omega)).trans hR15)
  have HU18 := hide hU18
  have HA18 := hide hA18
  have HR18 := hide hR18
  have HW18 := hide hw18
  have HLP18 := hide ((unhide HO18).lab (unhide H5) (unhide HB18))
  clear hw18 hk18 hQ15 hQ17 hU15 hU18 hA15 hA18 hR15 hR18 hown17 hb17 hb1517 HL16' HF16 HQb HUb HAb HRb p0 p1 p2 p3 KG HB15 HB16 HP5 HC5 hL2 HW16 hp
  have hR1c : ((R + 1 : Nat) : Int) = (R : Int) + 1 := rfl
  have KY := hide (ready_any P (R + 1) 1 K L2 so2 aa sc2 ca xs w18 hq2 hK hK' hx (unhide HLP18).code (unhide HLP18).args (unhide HLP18).tab (unhide HLP18).pos)
  rw [show ((1 : Nat) : Int) = 1 from rfl, hR1c] at KY
  go_upto_region 17 with fail
  rw [← unhide HW18]
  have q0 := (unhide HLP18).prog.c0
  have q1 : w18.cell? ⟨w7.heap.size, 1, none⟩ = some (.int .i64 ((R : Int) + 1)) := (unhide HLP18).prog.c1
  have q2 : w18.cell? ⟨w7.heap.size, 2, none⟩ = some (.int .i64 1) := (unhide HLP18).prog.c2
  have q3 := (unhide HLP18).prog.c3
  go_wp2_with fail
  refine (unhide KY).mono ?_
  rintro _ w19 ⟨vo, vc, rfl, _, hown19, hb19⟩
  unfold unitV
  rw [show ((1 : Nat) : Int) = 1 from rfl]
  clear q0 q1 q2 q3 KY y0 y1 y2 y3 yf
  have hs19 := hb19.size
  have hU19 := (hb19.block _ (by omega)).trans (unhide HU18)
  have y0 : w19.cell? ⟨w9.heap.size, 0, none⟩ = some z0' := (cell_of_row w19 _ 0 _ 33 (0, 0) hU19).trans rfl
  have y1 : w19.cell? ⟨w9.heap.size, 1, none⟩ = some z1' := (cell_of_row w19 _ 1 _ 33 (0, 0) hU19).trans rfl
  have y2 : w19.cell? ⟨w9.heap.size, 2, none⟩ = some z2' := (cell_of_row w19 _ 2 _ 33 (0, 0) hU19).trans rfl
  have y3 : w19.cell? ⟨w9.heap.size, 3, none⟩ = some z3' := (cell_of_row w19 _ 3 _ 33 (0, 0) hU19).trans rfl
  have y4 : w19.cell? ⟨w9.heap.size, 4, none⟩ = some z4' := (cell_of_row w19 _ 4 _ 33 (0, 0) hU19).trans rfl
  have y5 : w19.cell? ⟨w9.heap.size, 5, none⟩ = some z5' := (cell_of_row w19 _ 5 _ 33 (0, 0) hU19).trans rfl
  have yf : ∀ o, w19.frozen? ⟨w9.heap.size, o, none⟩ = false := fun o => by have h := hU19; simp [World.frozen?, h]
  obtain ⟨S2, hS2⟩ : ∃ S2, S2 = slotsB L2 P (R + 1) K := ⟨_, rfl⟩
  obtain ⟨C2, hC2⟩ : ∃ C2, C2 = cmpC P (R + 1) K L2 := ⟨_, rfl⟩
  obtain ⟨T2, hT2⟩ : ∃ T2, T2 = encT (cmpR P (R + 1) 1 K L2) := ⟨_, rfl⟩
  rw [← hS2, ← hC2, ← hT2]
  obtain ⟨w20, hw20⟩ : ∃ w20, w20 = (((((w19.setCell ⟨w9.heap.size, 0, none⟩ (.int .i64 K)).setCell ⟨w9.heap.size, 1, none⟩ (.int .i64 S2)).setCell ⟨w9.heap.size, 2, none⟩ (.int .i64 P)).setCell ⟨w9.heap.size, 3, none⟩ (.int .i64 1)).setCell ⟨w9.heap.size, 4, none⟩ (.slice vo C2.length vc)).setCell ⟨w9.heap.size, 5, none⟩ (.string T2) := ⟨_, rfl⟩
  have hk20 : Keep (fun j => j = w9.heap.size) w19 w20 := by rw [hw20]; exact keep6 w19 w9.heap.size _ _ _ _ _ _
  have HV20 : Hid (UnitO w20 w9.heap.size w18.heap.size P (R + 1) 1 K L2 vo vc) := by
    refine ⟨?_, own_keep hown19 hk20 (fun k hk e => by have := (own_in hown19 k hk).1; omega)⟩
    rw [hw20, hS2, hC2, hT2]; exact set6 hU19 _ _ _ _ _ _
  have HO20 := hide (((unhide HO18).below hb19).aside hk20 (by omega) (by omega))
  have HB20 : Hid (Below w5.heap.size w5 w20) := ((unhide HB18).trans (hb19.mono (unhide HB18).size)).trans (hk20.below (by omega) (fun k hk e => by omega))
  have hs20 := hk20.size
  have HA20 := hide ((hk20.block _ (by omega) (by omega)).trans ((hb19.block _ (by omega)).trans (unhide HA18)))
  have HR20 := hide ((hk20.block _ (by omega) (by omega)).trans ((hb19.block _ (by omega)).trans (unhide HR18)))
  have HW20 := hide hw20
  have HSE := hide hS2
  have HCE := hide hC2
  have HTE := hide hT2
  clear hw20 hk20 hU19 hown19 hb19 HU18 HA18 HR18 HO18 HB18 HLP18 HW18 hS2 hC2 hT2
  have HLP20 := hide ((unhide HO20).lab (unhide H5) (unhide HB20))
  have HLU20 := hide (unhide HV20).lab
  have KA := hide (fun w (h : LabP w w7.heap.size P (R + 1) 1 L2 so2 sc2 aa xs) => lab_run hq2 hx so2 aa sc2 ca f (by omega) w h.code h.args h.tab h.pos)
  have KB := hide (fun w (h : LabP w w7.heap.size P (R + 1) 1 L2 so2 sc2 aa xs) (h' : LabU w w9.heap.size P (R + 1) 1 K L2 vo vc) => lab_mach hq2 hK hK' hx vo aa vc ca (4 * f + 4) (by omega) w h'.code h.args h.tab h.pos)
  have hGo := (sim_fwd hq2 hK hK' none xs hx.len hx.val f).1.ok
  obtain ⟨sc1, hsc1⟩ : ∃ sa, sa = runSt L2 f (st0 xs) := ⟨_, rfl⟩
  obtain ⟨sd1, hsd1⟩ : ∃ sb, sb = runSt (cmpC P (R + 1) K L2) (4 * f + 4) (stU (cmpR P (R + 1) 1 K L2) none xs) := ⟨_, rfl⟩
  rw [← hsc1] at KA hGo hOT
  rw [← hsd1] at KB hGo hOT
  have KV := hide (fun (h0 : sc1.kind = 0) w b1 v1 (h : ResOf w b1 v1 sd1) => every_any sd1 (sc1.stops.length : Int) c b1 v1 w h (by have := hGo.ls; omega) (hOT h0).2.2)
  have HVal := hide (fun h0 => And.intro (hOT h0).1 (hOT h0).2.1)
  rw [show ((4 * f + 4 : Nat) : Int) = 4 * (f : Int) + 4 by omega] at KB
  rw [show ((1 : Nat) : Int) = 1 from rfl] at KA KB
  rw [hR1c] at KA
  rw [← unhide HSE, ← unhide HCE, ← unhide HTE] at KB
  clear hsc1 hsd1 hGo hOT hq2
  go_upto_region 18 with fail
  rw [← unhide HW20]
  clear y0 y1 y2 y3 y4 y5 yf
  have q0 := (unhide HLP20).prog.c0
  have q1 : w20.cell? ⟨w7.heap.size, 1, none⟩ = some (.int .i64 ((R : Int) + 1)) := (unhide HLP20).prog.c1
  have q2 : w20.cell? ⟨w7.heap.size, 2, none⟩ = some (.int .i64 1) := (unhide HLP20).prog.c2
  have q3 := (unhide HLP20).prog.c3
  go_wp2_with fail
  refine (unhide KA w20 (unhide HLP20)).mono ?_
  rintro _ w21 hpost
  have hb21 := hpost.choose_spec.2.2
  have hs21 := hb21.size
  have hA21 := (hb21.block _ (by omega)).trans (unhide HA20)
  obtain ⟨o5, c5, o6, c6, rfl, _, w22, hw22, HC22, HK22⟩ := res_over hA21 (by omega) hpost
  have y0 : w21.cell? ⟨w11.heap.size, 0, none⟩ = some a0' := (cell_of_row w21 _ 0 _ 38 (0, 0) hA21).trans rfl
  have y1 : w21.cell? ⟨w11.heap.size, 1, none⟩ = some a1' := (cell_of_row w21 _ 1 _ 38 (0, 0) hA21).trans rfl
  have y2 : w21.cell? ⟨w11.heap.size, 2, none⟩ = some a2' := (cell_of_row w21 _ 2 _ 38 (0, 0) hA21).trans rfl
  have y3 : w21.cell? ⟨w11.heap.size, 3, none⟩ = some a3' := (cell_of_row w21 _ 3 _ 38 (0, 0) hA21).trans rfl
  have y4 : w21.cell? ⟨w11.heap.size, 4, none⟩ = some a4' := (cell_of_row w21 _ 4 _ 38 (0, 0) hA21).trans rfl
  have yf : ∀ o, w21.frozen? ⟨w11.heap.size, o, none⟩ = false := fun o => by have h := hA21; simp [World.frozen?, h]
  have HO22 := hide (((unhide HO20).below hb21).aside (unhide HK22) (by omega) (by omega))
  have HV22 := hide (((unhide HV20).below hb21).aside (unhide HK22) (by omega) (by omega))
  have HB22 : Hid (Below w5.heap.size w5 w22) := ((unhide HB20).trans (hb21.mono (unhide HB20).size)).trans ((unhide HK22).below (by omega) (fun k hk e => by omega))
  have HR22 := hide (((unhide HK22).block _ (by omega) (by omega)).trans ((hb21.block _ (by omega)).trans (unhide HR20)))
  have hs22 := (unhide HK22).size
  have HW22 := hide hw22
  clear hw22 hpost hb21 hA21 HK22 HO20 HV20 HB20 HR20 HA20 HLP20 HLU20 q0 q1 q2 q3 KA HW20
  have HLP22 := hide ((unhide HO22).lab (unhide H5) (unhide HB22))
  have HLU22 := hide (unhide HV22).lab
  go_upto_region 21 with fail
  rw [← unhide HW22]
  obtain ⟨u0, u1, u2, u3, u4, u5⟩ := labu_cells (unhide HLU22)
  rw [← unhide HSE] at u1
  rw [show ((1 : Nat) : Int) = 1 from rfl] at u3
  rw [← unhide HCE] at u4
  rw [← unhide HTE] at u5
  clear y0 y1 y2 y3 y4 yf
  go_wp2_with fail
  refine (unhide KB w22 (unhide HLP22) (unhide HLU22)).mono ?_
  rintro _ w23 hpost
  have hb23 := hpost.choose_spec.2.2
  have hs23 := hb23.size
  have hR23 := (hb23.block _ (by omega)).trans (unhide HR22)
  obtain ⟨o7, c7, o8, c8, rfl, _, w24, hw24, HD24, HK24⟩ := res_over hR23 (by omega) hpost
  have y0 : w23.cell? ⟨w13.heap.size, 0, none⟩ = some b0' := (cell_of_row w23 _ 0 _ 38 (0, 0) hR23).trans rfl
  have y1 : w23.cell? ⟨w13.heap.size, 1, none⟩ = some b1' := (cell_of_row w23 _ 1 _ 38 (0, 0) hR23).trans rfl
  have y2 : w23.cell? ⟨w13.heap.size, 2, none⟩ = some b2' := (cell_of_row w23 _ 2 _ 38 (0, 0) hR23).trans rfl
  have y3 : w23.cell? ⟨w13.heap.size, 3, none⟩ = some b3' := (cell_of_row w23 _ 3 _ 38 (0, 0) hR23).trans rfl
  have y4 : w23.cell? ⟨w13.heap.size, 4, none⟩ = some b4' := (cell_of_row w23 _ 4 _ 38 (0, 0) hR23).trans rfl
  have yf : ∀ o, w23.frozen? ⟨w13.heap.size, o, none⟩ = false := fun o => by have h := hR23; simp [World.frozen?, h]
  have HC24 : Hid (ResAt w24 w11.heap.size w20.heap.size sc1 o5 c5 o6 c6) := by
    have h1 := (unhide HC22).below hb23
    exact ⟨((unhide HK24).block _ h1.lt (by omega)).trans h1.blk, own_keep h1.outs (unhide HK24) (fun k hk e => by have := (own_in h1.outs k hk).1; omega), own_keep h1.stops (unhide HK24) (fun k hk e => by have := (own_in h1.stops k hk).1; omega)⟩
  have HB24 : Hid (Below w5.heap.size w5 w24) := ((unhide HB22).trans (hb23.mono (unhide HB22).size)).trans ((unhide HK24).below (by omega) (fun k hk e => by omega))
  have HL24 : Hid (Below w.heap.size w w24) := (unhide HL5).trans ((unhide HB24).mono (unhide HL5).size)
  have HW24 := hide hw24
  clear hw24 hpost hb23 hR23 HK24 HC22 HO22 HV22 HB22 HR22 HLP22 HLU22 u0 u1 u2 u3 u4 u5 KB HW22 HSE HCE HTE HB24
  go_upto_region 22 with fail
  rw [← unhide HW24]
  clear y0 y1 y2 y3 y4 yf
  have a0 := (unhide HC24).c0
  by_cases hk0 : sc1.kind = 0
  case neg =>
    have hk' : (sc1.kind != 0) = true := by rw [bne_iff_ne]; exact hk0
    have HK := hide hk0
    clear hk0
    go_wp2_with fail
    go_returns
    exact ⟨rfl, unhide HL24⟩
  obtain ⟨v1, v2⟩ := unhide HVal hk0
  have KV' := hide (unhide KV hk0)
  have hk' : (sc1.kind != 0) = false := by rw [bne_eq_false_iff_eq]; exact hk0
  have a4 := (unhide HC24).c4
  have b0 := (unhide HD24).c0
  have b1 := (unhide HD24).c1
  have b2 := (unhide HD24).c2
  have b3 := (unhide HD24).c3
  have b4 := (unhide HD24).c4
  have HV1 := hide v1
  have HV2 := hide v2
  have HK0 := hide hk0
  clear hk0 v1 v2 KV HVal
  go_wp2_with fail
  refine (unhide KV' w24 w22.heap.size _ (unhide HD24).res).mono ?_
  rintro _ w25 ⟨rfl, hb25⟩
  have HC25 := hide ((unhide HC24).below hb25)
  have HD25 := hide ((unhide HD24).below hb25)
  have HL25 : Hid (Below w.heap.size w w25) := (unhide HL24).trans (hb25.mono (unhide HL24).size)
  have x1 := (unhide HC25).c1
  have x2 := (unhide HD25).c1
  rw [unhide HV1] at x1
  rw [unhide HV2] at x2
  clear hb25 a0 a4 b0 b1 b2 b3 b4
  go_wp2_with fail
  go_returns
  exact ⟨rfl, unhide HL25⟩
end Go.Proofs.YtoepcplbpochpabDoor

/-
  What came in, opened: a program's code, a list of numbers; and the table that the program's text lays.
-/
namespace Go.Proofs.YtoepcplbpochpabDoor
open Go.ChangeShapes Go.WideShapes Go.ChangeAt Go.RowKit Go.Deep

theorem Tryd.cells31 : Tryd.prog.cellsOf 31 = 4 := by kernel_rfl
theorem Tryd.cells3 : Tryd.prog.cellsOf 3 = 1 := by kernel_rfl
theorem Tryd.cells22 : Tryd.prog.cellsOf 22 = 1 := by kernel_rfl
theorem Tryd.cells24 : Tryd.prog.cellsOf 24 = 4 := by kernel_rfl
theorem Tryd.cells156 : Tryd.prog.cellsOf 156 = 3 := by kernel_rfl

set_option maxRecDepth 100000 in
theorem open_code {H : Type} {enc : TypeId × Value → H} {w : World} {base : Nat} {spare : Nat → Bool} {held : Bool} {fuel : Nat} {cs : List Value} {x : DataW H × List MemPlace}
    (h : DataW.trod enc Tryd.prog w base spare held fuel 22 cs = some x) :
    cs = [.slice none 0 0] ∨ ∃ (a : Addr) (len cap : Nat) (L : List In4) (elems rest : List (DataW H)), cs = [.slice (some a) len cap] ∧ L.length = len ∧ x.1 = .slice elems rest ∧ elems.length = len ∧ HeldIns w (some a) L := by
  rcases open_slice Tryd.underlying22 h with ⟨h0, _⟩ | ⟨a, len, cap, m, n, D, Pl, rfl, hb, hl, hm, hmm, rfl, hx⟩
  · exact .inl h0
  right
  have hlm : len ≤ m := by rw [hmm]; split <;> omega
  have each : ∀ i, i < len → ∃ r : In4, w.cell? (a.add (i * 4)) = some (.int .i64 r.op) ∧ w.cell? (a.add (i * 4 + 1)) = some (.int .i64 r.d) ∧ w.cell? (a.add (i * 4 + 2)) = some (.int .i64 r.a) ∧ w.cell? (a.add (i * 4 + 3)) = some (.int .i64 r.b) := by
    intro i hi
    obtain ⟨cs', h1, h2⟩ := hx i (by omega)
    rw [Tryd.cells31] at h1
    obtain ⟨_, hlen, hcell⟩ := World.cells?_some h1
    obtain ⟨xs, k, hk, hxy, _, hxl, hf⟩ := DataW.trod_struct Tryd.underlying31 h2
    match xs, hxl, cs', hlen with
    | [y0, y1, y2, y3], _, [v0, v1, v2, v3], _ =>
      have g0 := hf 0 _ rfl
      have g1 := hf 1 _ rfl
      have g2 := hf 2 _ rfl
      have g3 := hf 3 _ rfl
      simp [Tryd.cells3] at g0 g1 g2 g3
      obtain ⟨z0, e0, _, _⟩ := DataW.trod_int Tryd.underlying3 g0
      obtain ⟨z1, e1, _, _⟩ := DataW.trod_int Tryd.underlying3 g1
      obtain ⟨z2, e2, _, _⟩ := DataW.trod_int Tryd.underlying3 g2
      obtain ⟨z3, e3, _, _⟩ := DataW.trod_int Tryd.underlying3 g3
      simp only [List.cons.injEq, and_true] at e0 e1 e2 e3
      subst e0 e1 e2 e3
      have c0 := hcell 0 (by omega)
      have c1 := hcell 1 (by omega)
      have c2 := hcell 2 (by omega)
      have c3 := hcell 3 (by omega)
      rw [add_add] at c0 c1 c2 c3
      exact ⟨⟨z0, z1, z2, z3⟩, by simpa using c0, by simpa using c1, by simpa using c2, by simpa using c3⟩
  have inh : Inhabited In4 := ⟨⟨0, 0, 0, 0⟩⟩
  obtain ⟨q, hq⟩ := choose_lt each
  have e : ∀ i, i < len → inAt ((List.range len).map q) i = q i := fun i hi => by unfold inAt; simp [hi]
  refine ⟨a, len, cap, (List.range len).map q, _, _, rfl, by simp, rfl, by simp, ?_⟩
  by_cases h0 : len = 0
  · exact .inl (by rw [h0]; rfl)
  obtain ⟨b, off, spot⟩ := a
  have hc := (hq 0 (by omega)).1
  have hspot : spot = none := by simpa [Addr.add] using World.cell?_spot hc
  subst hspot
  have hadd : ∀ j, (⟨b, off, none⟩ : Addr).add j = ⟨b, off + j, none⟩ := fun j => by unfold Addr.add; split <;> simp_all
  refine .inr ⟨b, off, rfl, ?_, fun i hi => ?_⟩
  · rw [hadd] at hc; exact World.block_lt_of_cell? w _ hc
  · rw [List.length_map, List.length_range] at hi
    obtain ⟨k0, k1, k2, k3⟩ := hq i hi
    rw [hadd] at k0 k1 k2 k3
    rw [e i hi]
    exact ⟨k0, k1, k2, k3⟩

set_option maxRecDepth 100000 in
theorem open_nums {H : Type} {enc : TypeId × Value → H} {w : World} {base : Nat} {spare : Nat → Bool} {held : Bool} {fuel : Nat} {cs : List Value} {x : DataW H × List MemPlace}
    (h : DataW.trod enc Tryd.prog w base spare held fuel 25 cs = some x) :
    cs = [.slice none 0 0] ∨ ∃ (a : Addr) (len cap : Nat) (L : List Int) (elems rest : List (DataW H)), cs = [.slice (some a) len cap] ∧ L.length = len ∧ x.1 = .slice elems rest ∧ elems.length = len ∧ HeldI w (some a) L := by
  rcases open_slice Tryd.underlying25 h with ⟨h0, _⟩ | ⟨a, len, cap, m, n, D, Pl, rfl, hb, hl, hm, hmm, rfl, hx⟩
  · exact .inl h0
  right
  have hlm : len ≤ m := by rw [hmm]; split <;> omega
  have each : ∀ i, i < len → ∃ r : Int, w.cell? (a.add i) = some (.int .i64 r) := by
    intro i hi
    obtain ⟨cs', h1, h2⟩ := hx i (by omega)
    rw [Tryd.cells3] at h1
    obtain ⟨_, hlen, hcell⟩ := World.cells?_some h1
    match cs', hlen with
    | [v0], _ =>
      obtain ⟨z0, e0, _, _⟩ := DataW.trod_int Tryd.underlying3 h2
      simp only [List.cons.injEq, and_true] at e0
      subst e0
      have c0 := hcell 0 (by omega)
      rw [add_add] at c0
      exact ⟨z0, by simpa using c0⟩
  have inh : Inhabited Int := ⟨0⟩
  obtain ⟨q, hq⟩ := choose_lt each
  have e : ∀ i, i < len → nth ((List.range len).map q) i = q i := fun i hi => by unfold nth; simp [hi]
  refine ⟨a, len, cap, (List.range len).map q, _, _, rfl, by simp, rfl, by simp, ?_⟩
  by_cases h0 : len = 0
  · exact .inl (by rw [h0]; rfl)
  obtain ⟨b, off, spot⟩ := a
  have hc := hq 0 (by omega)
  have hspot : spot = none := by simpa [Addr.add] using World.cell?_spot hc
  subst hspot
  have hadd : ∀ j, (⟨b, off, none⟩ : Addr).add j = ⟨b, off + j, none⟩ := fun j => by unfold Addr.add; split <;> simp_all
  refine .inr ⟨b, off, rfl, ?_, fun i hi => ?_⟩
  · rw [hadd] at hc; exact World.block_lt_of_cell? w _ hc
  · rw [List.length_map, List.length_range] at hi
    have k0 := hq i hi
    rw [hadd] at k0
    rw [e i hi]
    exact k0

set_option maxRecDepth 100000 in
theorem open_prog {H : Type} {enc : TypeId × Value → H} {w : World} {base : Nat} {spare : Nat → Bool} {held : Bool} {fuel : Nat} {cl : List Value} {x : DataW H × List MemPlace}
    (h : DataW.trod enc Tryd.prog w base spare held fuel 24 cl = some x) :
    ∃ (P R V : Int) (ac : Option Addr) (L : List In4) (cc : Nat), cl = [.int .i64 P, .int .i64 R, .int .i64 V, .slice ac L.length cc] ∧ HeldIns w ac L ∧ (L = [] ∨ ∃ y0 y1 y2 elems rest, x.1 = .agg [y0, y1, y2, .slice elems rest] ∧ elems.length = L.length) := by
  obtain ⟨xs, n, _, hxy, hl, hxl, hf⟩ := DataW.trod_struct Tryd.underlying24 h
  rw [Tryd.cells24] at hl
  match xs, hxl, cl, hl with
  | [y0, y1, y2, y3], _, [c0, c1, c2, c3], _ =>
    have g0 := hf 0 _ rfl
    have g1 := hf 1 _ rfl
    have g2 := hf 2 _ rfl
    have g3 := hf 3 _ rfl
    simp [Tryd.cells3, Tryd.cells22] at g0 g1 g2 g3
    obtain ⟨z0, e0, _, _⟩ := DataW.trod_int Tryd.underlying3 g0
    obtain ⟨z1, e1, _, _⟩ := DataW.trod_int Tryd.underlying3 g1
    obtain ⟨z2, e2, _, _⟩ := DataW.trod_int Tryd.underlying3 g2
    simp only [List.cons.injEq, and_true] at e0 e1 e2
    subst e0 e1 e2
    rcases open_code g3 with hc | ⟨a, l, c, L, elems, rest, hc, hR, hx, he, hh⟩
    · simp only [List.cons.injEq, and_true] at hc
      subst hc
      exact ⟨z0, z1, z2, none, [], 0, rfl, .inl rfl, .inl rfl⟩
    · simp only [List.cons.injEq, and_true] at hc
      subst hc
      refine ⟨z0, z1, z2, some a, L, c, by rw [hR], hh, .inr ⟨y0.1, y1.1, y2.1, elems, rest, ?_, by rw [he, hR]⟩⟩
      rw [hxy, ← hx]
      rfl
theorem sized_prog {H : Type} {ts : List TypeId} {ds : List (DataW H)} {y0 y1 y2 : DataW H} {elems rest : List (DataW H)} (h : (DataW.weightsEach Tryd.prog ts ds).all (· ≤ reachBytes) = true) (ht : ts[0]? = some 24) (hd : ds[0]? = some (.agg [y0, y1, y2, .slice elems rest])) : elems.length * 32 ≤ 140737488351232 := by
  have hm : (elems.length + rest.length) * Tryd.prog.bytesOf 31 ∈ (DataW.agg [y0, y1, y2, .slice elems rest] : DataW H).weights Tryd.prog 24 := by
    simp [DataW.weights, Tryd.underlying24, DataW.weightsEach, Tryd.underlying22]
  have := List.all_eq_true.1 h _ (DataW.weights_mem_each ht hd _ hm)
  rw [show Tryd.prog.bytesOf 31 = 32 by kernel_rfl] at this
  unfold reachBytes at this
  simp at this
  omega

theorem Tryd.cells9 : Tryd.prog.cellsOf 9 = 1 := by kernel_rfl
theorem Tryd.cells33 : Tryd.prog.cellsOf 33 = 6 := by kernel_rfl
set_option maxRecDepth 100000 in
theorem open_unit {H : Type} {enc : TypeId × Value → H} {w : World} {base : Nat} {spare : Nat → Bool} {held : Bool} {fuel : Nat} {cl : List Value} {x : DataW H × List MemPlace}
    (h : DataW.trod enc Tryd.prog w base spare held fuel 33 cl = some x) :
    ∃ (K S P V : Int) (ac : Option Addr) (L : List In4) (cc : Nat) (T : ByteArray), cl = [.int .i64 K, .int .i64 S, .int .i64 P, .int .i64 V, .slice ac L.length cc, .string T] ∧ HeldIns w ac L ∧ T.size ≤ maxLen ∧ (L = [] ∨ ∃ y0 y1 y2 y3 elems rest y5, x.1 = .agg [y0, y1, y2, y3, .slice elems rest, y5] ∧ elems.length = L.length) := by
  obtain ⟨xs, n, _, hxy, hl, hxl, hf⟩ := DataW.trod_struct Tryd.underlying33 h
  rw [Tryd.cells33] at hl
  match xs, hxl, cl, hl with
  | [y0, y1, y2, y3, y4, y5], _, [c0, c1, c2, c3, c4, c5], _ =>
    have g0 := hf 0 _ rfl
    have g1 := hf 1 _ rfl
    have g2 := hf 2 _ rfl
    have g3 := hf 3 _ rfl
    have g4 := hf 4 _ rfl
    have g5 := hf 5 _ rfl
    simp [Tryd.cells3, Tryd.cells22, Tryd.cells9] at g0 g1 g2 g3 g4 g5
    obtain ⟨z0, e0, _, _⟩ := DataW.trod_int Tryd.underlying3 g0
    obtain ⟨z1, e1, _, _⟩ := DataW.trod_int Tryd.underlying3 g1
    obtain ⟨z2, e2, _, _⟩ := DataW.trod_int Tryd.underlying3 g2
    obtain ⟨z3, e3, _, _⟩ := DataW.trod_int Tryd.underlying3 g3
    obtain ⟨T, e5, _, hT⟩ := DataW.trod_string Tryd.underlying9 g5
    simp only [List.cons.injEq, and_true] at e0 e1 e2 e3 e5
    subst e0 e1 e2 e3 e5
    rcases open_code g4 with hc | ⟨a, l, c, L, elems, rest, hc, hR, hx, he, hh⟩
    · simp only [List.cons.injEq, and_true] at hc
      subst hc
      exact ⟨z0, z1, z2, z3, none, [], 0, T, rfl, .inl rfl, hT, .inl rfl⟩
    · simp only [List.cons.injEq, and_true] at hc
      subst hc
      refine ⟨z0, z1, z2, z3, some a, L, c, T, by rw [hR], hh, hT, .inr ⟨y0.1, y1.1, y2.1, y3.1, elems, rest, y5.1, ?_, by rw [he, hR]⟩⟩
      rw [hxy, ← hx]
      rfl
theorem sized_unit {H : Type} {ts : List TypeId} {ds : List (DataW H)} {y0 y1 y2 y3 y5 : DataW H} {elems rest : List (DataW H)} {j : Nat} (h : (DataW.weightsEach Tryd.prog ts ds).all (· ≤ reachBytes) = true) (ht : ts[j]? = some 33) (hd : ds[j]? = some (.agg [y0, y1, y2, y3, .slice elems rest, y5])) : elems.length * 32 ≤ 140737488351232 := by
  have hm : (elems.length + rest.length) * Tryd.prog.bytesOf 31 ∈ (DataW.agg [y0, y1, y2, y3, .slice elems rest, y5] : DataW H).weights Tryd.prog 33 := by
    simp [DataW.weights, Tryd.underlying33, DataW.weightsEach, Tryd.underlying22]
  have := List.all_eq_true.1 h _ (DataW.weights_mem_each ht hd _ hm)
  rw [show Tryd.prog.bytesOf 31 = 32 by kernel_rfl] at this
  unfold reachBytes at this
  simp at this
  omega

theorem gKinds : Tryd.prog.globalNamed "lodge/code.kinds" = some 0 := by kernel_rfl
theorem tKinds : (Tryd.prog.globals[0]?).map (·.type) = some 157 := by kernel_rfl
theorem laid_kinds {H : Type} : (Rows.laid_lodge_code_kinds : DataW H) = .agg (kindL.map fun r => .agg (r.map fun k => .lit (.int .i64 k))) := rfl
theorem kind_row (o j : Nat) (ho : o < 17) (hj : j < 3) : ∃ r, kindL[o]? = some r ∧ r[j]? = some (kindAt o j) := by
  rcases (show o = 0 ∨ o = 1 ∨ o = 2 ∨ o = 3 ∨ o = 4 ∨ o = 5 ∨ o = 6 ∨ o = 7 ∨ o = 8 ∨ o = 9 ∨ o = 10 ∨ o = 11 ∨ o = 12 ∨ o = 13 ∨ o = 14 ∨ o = 15 ∨ o = 16 by omega) with rfl | rfl | rfl | rfl | rfl | rfl | rfl | rfl | rfl | rfl | rfl | rfl | rfl | rfl | rfl | rfl | rfl
  all_goals
    rcases (show j = 0 ∨ j = 1 ∨ j = 2 by omega) with rfl | rfl | rfl <;> exact ⟨_, rfl, rfl⟩

/-- What the condition on the table gives the walks. -/
theorem of_laid {W : World} (h : laidMetH Tryd.prog [("lodge/code.kinds", Rows.laid_lodge_code_kinds)] W) : Tab W := by
  rw [MakeChecks.laidMetH_plain _ _ _ (by kernel_rfl)] at h
  obtain ⟨ps, ⟨g0, t0, cs, f0, p0, q0, hg0, ht0, hv0, hd0, _, _⟩, _⟩ := h
  obtain rfl := Option.some.inj (gKinds.symm.trans hg0)
  obtain rfl := Option.some.inj (tKinds.symm.trans ht0)
  obtain ⟨xs, m, rfl, hx, hlen, hn, hel⟩ := DataW.trod_array Tryd.underlying157 hd0
  simp only [Prod.mk.injEq] at hx
  rw [laid_kinds, DataW.agg.injEq] at hx
  intro o j ho hj
  obtain ⟨r, hr, hrj⟩ := kind_row o j ho hj
  have h1 := hel o ho
  obtain ⟨x, hxo⟩ : ∃ x, xs[o]? = some x := ⟨xs[o]'(by omega), List.getElem?_eq_getElem _⟩
  rw [hxo] at h1
  have hd1 : x.1 = .agg (r.map fun k => .lit (.int .i64 k)) := by
    have e := congrArg (fun l : List (DataW _) => l[o]?) hx.1
    simp only [List.getElem?_map, hr, hxo, Option.map_some, Option.some.injEq] at e
    exact e.symm
  obtain ⟨ys, m', rfl, hy, hly, hny, hel'⟩ := DataW.trod_array Tryd.underlying156 h1
  have h2 := hel' j hj
  obtain ⟨y, hyj⟩ : ∃ y, ys[j]? = some y := ⟨ys[j]'(by omega), List.getElem?_eq_getElem _⟩
  rw [hyj] at h2
  have hd2 : y.1 = .lit (.int .i64 (kindAt o j)) := by
    rw [hy] at hd1
    simp only [DataW.agg.injEq] at hd1
    have e := congrArg (fun l : List (DataW _) => l[j]?) hd1
    simp only [List.getElem?_map, hrj, hyj, Option.map_some, Option.some.injEq] at e
    exact e
  obtain ⟨k, e1, e2, _⟩ := DataW.trod_int Tryd.underlying3 h2
  have hk : k = kindAt o j := by rw [e2] at hd2; simpa using hd2
  subst hk
  have hcell := World.var?_cell hg0 hv0 (o * 3 + j)
  rw [hcell]
  rw [Tryd.cells156, Tryd.cells3] at e1
  have e3 := congrArg (fun l : List Value => l[0]?) e1
  simp only [Nat.mul_one, List.getElem?_take, List.getElem?_drop, Nat.add_zero, List.getElem?_cons_zero] at e3
  rw [if_pos (by omega), if_pos hj, Array.getElem?_toList] at e3
  exact e3
end Go.Proofs.YtoepcplbpochpabDoor
