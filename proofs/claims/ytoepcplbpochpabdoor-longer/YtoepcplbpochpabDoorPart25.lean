/-
  The second run is the first one, gone on: lodgekeep.goes.
-/
import Derived.Test.YtoepcplbpochpabDoorPart24
import Derived.Test.YtoepcplbpochpabDoorPart12
import Derived.Deep.Slices
import Derived.ProofKit
import Derived.LaidMore
import Derived.OpenShut
import Derived.Stop.Joined
import Derived.SizedLaws
import Derived.Test.YtoepcplbpochpabDoorPart21

namespace Go.Proofs.YtoepcplbpochpabDoor
open Go.RowKit

set_option maxRecDepth 100000 in
set_option maxHeartbeats 8000000 in
theorem goes_any (s t : St) (n m : Int) (b1 b2 : Nat) (v1 v2 : Value) (w : World) (h1 : ResOf w b1 v1 s) (h2 : ResOf w b2 v2 t) (hg : ShowOk s t) (hc : CountOk s.kind s.val s.steps n) (hc' : CountOk t.kind t.val t.steps m) (hst : s.kind ≠ 2 → t.steps = s.steps) :
    Calls Tryd.prog 19 #[v1, .int .i64 n, v2, .int .i64 m] w fun e w' => e = .returned (.bool true) ∧ Below w.heap.size w w' := by
  obtain ⟨vo, vs, rfl, o1, s1⟩ := h1
  obtain ⟨vo', vs', rfl, o2, s2⟩ := h2
  obtain ⟨ao, co, rfl, hA, hl⟩ := own_heldI o1
  obtain ⟨bo, do', rfl, hB, hl'⟩ := own_heldI o2
  obtain ⟨as', cs, rfl, hC, hm⟩ := own_heldS s1
  obtain ⟨bs, ds, rfl, hD, hm'⟩ := own_heldS s2
  unfold maxLen at hl hm hl' hm'
  have K1 := hide (fun w (hA : HeldI w ao s.outs) (hB : HeldI w bo t.outs) => ahead_any s.outs t.outs ao bo co do' w hA hB (by omega) (by omega) hg.outs)
  have K2 := hide (fun w (hA : HeldS w as' s.stops) (hB : HeldS w bs t.stops) => met_any s.stops t.stops as' bs cs ds w hA hB (by omega) (by omega) hg.stops)
  have K3 := hide (fun w => counted_any s.kind s.val s.steps n ao as' s.outs.length co s.stops.length cs w hc)
  have K4 := hide (fun w => counted_any t.kind t.val t.steps m bo bs t.outs.length do' t.stops.length ds w hc')
  have HA := hide hA
  have HB := hide hB
  have HC := hide hC
  have HD := hide hD
  have hlo := hg.lo
  have hls := hg.ls
  have i1 : ¬ ((s.outs.length : Int) > (t.outs.length : Int)) := by omega
  have i2 : ¬ ((s.stops.length : Int) > (t.stops.length : Int)) := by omega
  have HF := hide hg.fin
  have HST := hide hst
  clear hA hB hC hD o1 o2 s1 s2 hg hc hc' hst
  obtain ⟨w1, hw1, HR1, HB1, hz1⟩ := box_res w s t ao co as' cs bo do' bs ds
  have HW1 := hide hw1
  clear hw1
  go_enter Tryd.func19, Tryd.ntmps19
  go_upto_region 1 with fail
  rw [← unhide HW1]
  obtain ⟨a0, a1, a2, a3, a4, b0, b1, b2, b3, b4⟩ := unhide HR1
  go_wp2_with fail
  refine (unhide K3 w1).mono ?_
  rintro _ w2 ⟨rfl, hb2⟩
  clear a0 a1 a2 a3 a4 b0 b1 b2 b3 b4
  have HR2 := hide ((unhide HR1).below hb2 (by omega))
  have HB2 : Hid (Below w.heap.size w w2) := (unhide HB1).trans (hb2.mono (by omega))
  have hz2 := hb2.size
  clear hb2 HR1
  obtain ⟨a0, a1, a2, a3, a4, b0, b1, b2, b3, b4⟩ := unhide HR2
  go_wp2_with fail
  refine (unhide K4 w2).mono ?_
  rintro _ w3 ⟨rfl, hb3⟩
  clear a0 a1 a2 a3 a4 b0 b1 b2 b3 b4
  have HR3 := hide ((unhide HR2).below hb3 (by omega))
  have HB3 : Hid (Below w.heap.size w w3) := (unhide HB2).trans (hb3.mono (unhide HB2).size)
  have hz3 := hb3.size
  clear hb3 HR2
  have a3 := (unhide HR3).a3
  have b3 := (unhide HR3).b3
  go_wp2_with fail
  refine (unhide K1 w3 ((unhide HA).below (unhide HB3)) ((unhide HB).below (unhide HB3))).mono ?_
  rintro _ w4 ⟨rfl, hb4⟩
  clear a3 b3
  have HR4 := hide ((unhide HR3).below hb4 (by omega))
  have HB4 : Hid (Below w.heap.size w w4) := (unhide HB3).trans (hb4.mono (unhide HB3).size)
  have hz4 := hb4.size
  clear hb4 HR3
  have a4 := (unhide HR4).a4
  have b4 := (unhide HR4).b4
  go_wp2_with fail
  refine (unhide K2 w4 ((unhide HC).below (unhide HB4)) ((unhide HD).below (unhide HB4))).mono ?_
  rintro _ w5 ⟨rfl, hb5⟩
  clear a4 b4
  have HB5 : Hid (Below w.heap.size w w5) := (unhide HB4).trans (hb5.mono (unhide HB4).size)
  obtain ⟨a0, a1, a2, a3, a4, b0, b1, b2, b3, b4⟩ := (unhide HR4).below hb5 (by omega)
  clear hb5 HR4
  by_cases hk : s.kind = 2
  · have hk' : (s.kind == 2) = true := by rw [beq_iff_eq]; exact hk
    have HK := hide hk
    clear hk
    go_wp2_with fail
    go_returns
    exact ⟨rfl, unhide HB5⟩
  · obtain ⟨f1, f2, f3, f4⟩ := unhide HF hk
    have f5 := unhide HST hk
    have hk' : (s.kind == 2) = false := by rw [beq_eq_false_iff_ne]; exact hk
    rw [f1] at b0
    rw [f2] at b1
    rw [f5] at b2
    rw [f3] at b3
    rw [f4] at b4
    rw [f3] at i1 hlo
    rw [f4] at i2 hls
    have HK := hide hk
    clear hk f1 f2 f3 f4 f5
    go_wp2_with fail
    go_returns
    exact ⟨rfl, unhide HB5⟩
end Go.Proofs.YtoepcplbpochpabDoor

/-
  The walk through lodgekeep.Longer.
-/
namespace Go.Proofs.YtoepcplbpochpabDoor
open Go.RowKit

set_option maxRecDepth 100000 in
set_option maxHeartbeats 8000000 in
theorem longer_walk (P0 R0 V0 : Int) (L0 : List In4) (ac : Option Addr) (cc : Nat) (k : Int) (nums : List Int) (na : Option Addr) (nc : Nat) (n m : Int) (w : World) (hH : HeldIns w ac L0) (hv : RngI L0) (hP0 : Rng P0) (hR0 : Rng R0) (hV0 : Rng V0) (hl : L0.length ≤ 9223372036854775807) (hcc : L0.length ≤ cc)
    (hA : HeldI w na nums) (hnv : ∀ i, i < nums.length → Rng (nth nums i)) (hnl : nums.length ≤ 9223372036854775807) (hk : Rng k) (hn : Rng n) (hm : Rng m) (hT : Tab w) (hw0 : 0 < w.heap.size) :
    Calls Tryd.prog 6 #[.agg #[.int .i64 P0, .int .i64 R0, .int .i64 V0, .slice ac L0.length cc], .int .i64 k, .slice na nums.length nc, .int .i64 n, .int .i64 m] w fun e w' => e = .returned (.bool true) ∧ Below w.heap.size w w' := by
  have bn := pick_lt n 10000 (by decide)
  have bm := pick_lt m 10000 (by decide)
  obtain ⟨f, hfe⟩ : ∃ f : Nat, (f : Int) = pickI n 10000 := ⟨(pickI n 10000).toNat, by omega⟩
  obtain ⟨g, hge⟩ : ∃ g : Nat, (g : Int) = pickI m 10000 := ⟨(pickI m 10000).toNat, by omega⟩
  have hf : f < 10000 := by omega
  have hg : g < 10000 := by omega
  have HFE := hide hfe
  have HGE := hide hge
  clear hfe hge bn bm
  have KP := hide (fun (c n : Int) (w : World) (h : Rng c) (hn : 0 < n) => pick_any c n w h.1 h.2 hn)
  obtain ⟨w1, hw1, HP1, HL1, hz1⟩ := box_prog w P0 R0 V0 (.slice ac L0.length cc)
  have HW := hide hw1
  have KR := hide (right_any P0 R0 V0 L0 ac cc 40 12 w1 (hH.below' (unhide HL1)) hv hP0 hR0 hV0 hl hcc (by omega) (by omega) (by omega) (by omega))
  have HT := hide hT
  have HN := hide hA
  have HNV := hide hnv
  clear hw1 hH hT hA hnv
  have bK := pick_lt k 15 (by decide)
  obtain ⟨K, hKe⟩ : ∃ K : Nat, (K : Int) = 2 + pickI k 15 := ⟨(2 + pickI k 15).toNat, by omega⟩
  have hK : 2 ≤ K := by omega
  have hK' : K ≤ 16 := by omega
  have HKE := hide hKe
  clear hKe
  go_enter Tryd.func6, Tryd.ntmps6
  go_upto_region 1 with fail
  rw [← unhide HW]
  have p0 := (unhide HP1).c0
  have p1 := (unhide HP1).c1
  have p2 := (unhide HP1).c2
  have p3 := (unhide HP1).c3
  go_wp2_with fail
  refine (unhide KR).mono ?_
  rintro _ w2 ⟨P, R, V, L, ao, cap, rfl, hp, hR12, hL40, hown, hb2⟩
  clear p0 p1 p2 p3 KR HP1 HW
  have hz2 := hb2.size
  obtain ⟨w3, hw3, HP3, HL3', hz3⟩ := box_prog w2 P R V (.slice ao L.length cap)
  have HL3 : Hid (Below w.heap.size w w3) := ((unhide HL1).trans (hb2.mono (by omega))).trans ((unhide HL3').mono (by omega))
  have HC3 : Hid (HeldIns w3 ao L) := (held_own hown).below' (unhide HL3')
  have HW3 := hide hw3
  clear hw3 hb2 hown HL1 HL3'
  go_upto_region 2 with fail
  rw [← unhide HW3]
  go_wp2_with fail
  refine (unhide KP k 15 _ hk (by decide)).mono ?_
  rintro _ w4 ⟨rfl, hw4⟩
  rw [hw4]
  clear hw4
  have q0 := (unhide HP3).c0
  go_wp2_with fail
  rw [← unhide HKE]
  have hP4 : P ≤ 4 := by have := hp.p4; omega
  refine (fit_any nums na nc P w3 ((unhide HN).below (unhide HL3)) (unhide HNV) hnl hP4).mono ?_
  rintro _ w5 ⟨va, rfl, hown5, hb5⟩
  have hx : ArgsOk (fitTo nums P) P := fit_args
  obtain ⟨aa, ca, hve, hA5, _⟩ := own_heldI (xs := fitTo nums P) (by rw [fitTo_len]; exact hown5)
  subst hve
  obtain ⟨xs, hxs⟩ : ∃ xs, xs = fitTo nums P := ⟨_, rfl⟩
  rw [← hxs] at hx hA5
  rw [← hxs]
  have HLP5 : Hid (LabP w5 w2.heap.size P R V L ao cap aa xs) := ⟨(hb5.block _ (by omega)).trans (unhide HP3), (unhide HC3).below' hb5, hA5, ((unhide HT).below (unhide HL3) hw0).below hb5 (by omega), by have := hb5.size; omega⟩
  have HL5 : Hid (Below w.heap.size w w5) := (unhide HL3).trans (hb5.mono (unhide HL3).size)
  clear hown5 hA5 hb5 HP3 HC3 HL3 hxs HW3 q0 HN HNV
  have KY := hide (ready_any P R V K L ao aa cap ca xs w5 hp hK hK' hx (unhide HLP5).code (unhide HLP5).args (unhide HLP5).tab (unhide HLP5).pos)
  have q0 := (unhide HLP5).prog.c0
  have q1 := (unhide HLP5).prog.c1
  have q2 := (unhide HLP5).prog.c2
  have q3 := (unhide HLP5).prog.c3
  go_wp2_with fail
  refine (unhide KY).mono ?_
  rintro _ w6 ⟨uo, uc, rfl, hH6, _, hb6⟩
  unfold unitV
  clear q0 q1 q2 q3 KY
  obtain ⟨w7, hw7, HU7', HL7', hz7⟩ := box_unit w6 K (slotsB L P R K) P V (.slice uo (cmpC P R K L).length uc) (encT (cmpR P R V K L))
  have HLU7 : Hid (LabU w7 w6.heap.size P R V K L uo uc) := ⟨unhide HU7', hH6.below' (unhide HL7')⟩
  have hb57 : Below w5.heap.size w5 w7 := hb6.trans ((unhide HL7').mono hb6.size)
  have HLP7 := hide ((unhide HLP5).below hb57)
  have HL7 : Hid (Below w.heap.size w w7) := (unhide HL5).trans (hb57.mono (unhide HL5).size)
  have HW7 := hide hw7
  clear hw7 hb6 hb57 hH6 HLP5 HL5 HU7' HL7'
  go_upto_region 5 with fail
  rw [← unhide HW7]
  have KA := hide (fun w (h : LabP w w2.heap.size P R V L ao cap aa xs) => lab_run hp hx ao aa cap ca f (by omega) w h.code h.args h.tab h.pos)
  have KB := hide (fun w (h : LabP w w2.heap.size P R V L ao cap aa xs) => lab_run hp hx ao aa cap ca (f + g) (by omega) w h.code h.args h.tab h.pos)
  have KC := hide (fun w (h : LabP w w2.heap.size P R V L ao cap aa xs) (h' : LabU w w6.heap.size P R V K L uo uc) => lab_mach hp hK hK' hx uo aa uc ca f (by omega) w h'.code h.args h.tab h.pos)
  have KD := hide (fun w (h : LabP w w2.heap.size P R V L ao cap aa xs) (h' : LabU w w6.heap.size P R V K L uo uc) => lab_mach hp hK hK' hx uo aa uc ca (f + g) (by omega) w h'.code h.args h.tab h.pos)
  have hCA := cnt_prog hp hx f
  have hCB := cnt_prog hp hx (f + g)
  have hCC := cnt_unit hp hK hK' hx f
  have hCD := cnt_unit hp hK hK' hx (f + g)
  obtain ⟨hG1, hG1'⟩ := going_more L (t := st0 xs) rfl rfl rfl f g
  obtain ⟨hG2, hG2'⟩ := going_more (cmpC P R K L) (t := stU (cmpR P R V K L) none xs) rfl rfl rfl f g
  have hS1 := hG1.ok
  have hS2 := hG2.ok
  have hE1 : (runSt L f (st0 xs)).kind ≠ 2 → (runSt L (f + g) (st0 xs)).steps = (runSt L f (st0 xs)).steps := fun h => by rw [hG1' h]
  have hE2 : (runSt (cmpC P R K L) f (stU (cmpR P R V K L) none xs)).kind ≠ 2 → (runSt (cmpC P R K L) (f + g) (stU (cmpR P R V K L) none xs)).steps = (runSt (cmpC P R K L) f (stU (cmpR P R V K L) none xs)).steps := fun h => by rw [hG2' h]
  obtain ⟨sa, hsa⟩ : ∃ sa, sa = runSt L f (st0 xs) := ⟨_, rfl⟩
  obtain ⟨sb, hsb⟩ : ∃ sb, sb = runSt L (f + g) (st0 xs) := ⟨_, rfl⟩
  obtain ⟨sc, hsc⟩ : ∃ sc, sc = runSt (cmpC P R K L) f (stU (cmpR P R V K L) none xs) := ⟨_, rfl⟩
  obtain ⟨sd, hsd⟩ : ∃ sd, sd = runSt (cmpC P R K L) (f + g) (stU (cmpR P R V K L) none xs) := ⟨_, rfl⟩
  rw [← hsa] at KA hCA hS1 hE1
  rw [← hsb] at KB hCB hS1 hE1
  rw [← hsc] at KC hCC hS2 hE2
  rw [← hsd] at KD hCD hS2 hE2
  rw [show ((f + g : Nat) : Int) = (f : Int) + (g : Int) by omega] at KB KD hCB hCD
  have G1 := hide (fun w b1 b2 v1 v2 (h1 : ResOf w b1 v1 sa) (h2 : ResOf w b2 v2 sb) => goes_any sa sb f ((f : Int) + (g : Int)) b1 b2 v1 v2 w h1 h2 hS1 hCA hCB hE1)
  have G2 := hide (fun w b1 b2 v1 v2 (h1 : ResOf w b1 v1 sc) (h2 : ResOf w b2 v2 sd) => goes_any sc sd f ((f : Int) + (g : Int)) b1 b2 v1 v2 w h1 h2 hS2 hCC hCD hE2)
  have wfg : IntKind.i64.wrap ((f : Int) + (g : Int)) = (f : Int) + (g : Int) := by rw [IntKind.wrap_i64]; omega
  clear hsa hsb hsc hsd hCA hCB hCC hCD hG1 hG1' hG2 hG2' hS1 hS2 hE1 hE2 hp hx
  obtain ⟨S, hS⟩ : ∃ S, S = slotsB L P R K := ⟨_, rfl⟩
  obtain ⟨C, hC⟩ : ∃ C, C = cmpC P R K L := ⟨_, rfl⟩
  obtain ⟨T, hTe⟩ : ∃ T, T = encT (cmpR P R V K L) := ⟨_, rfl⟩
  have HSE := hide hS
  have HCE := hide hC
  have HTE := hide hTe
  rw [← hS, ← hC, ← hTe] at KC KD
  rw [← hS, ← hC, ← hTe]
  clear hS hC hTe
  go_wp2_with fail
  refine (unhide KP n 10000 _ hn (by decide)).mono ?_
  rintro _ w8 ⟨rfl, hw8⟩
  rw [hw8, ← unhide HFE]
  clear hw8
  go_wp2_with fail
  refine (unhide KP m 10000 _ hm (by decide)).mono ?_
  rintro _ w8 ⟨rfl, hw8⟩
  rw [hw8, ← unhide HGE]
  clear hw8
  have q0 := (unhide HLP7).prog.c0
  have q1 := (unhide HLP7).prog.c1
  have q2 := (unhide HLP7).prog.c2
  have q3 := (unhide HLP7).prog.c3
  go_wp2_with fail
  refine (unhide KA w7 (unhide HLP7)).mono ?_
  rintro _ w8 hpost
  obtain ⟨o1, c1, o2, c2, rfl, w9, hw9, HA9, HB9, hz8⟩ := after_run hpost
  have HW9 := hide hw9
  have HLP9 := hide ((unhide HLP7).below (unhide HB9))
  have HLU9 := hide ((unhide HLU7).below (unhide HB9))
  have HL9 : Hid (Below w.heap.size w w9) := (unhide HL7).trans ((unhide HB9).mono (unhide HL7).size)
  clear hw9 hpost q0 q1 q2 q3 HLP7 HLU7 HL7 HB9 KA
  go_upto_region 10 with fail
  rw [← unhide HW9]
  have q0 := (unhide HLP9).prog.c0
  have q1 := (unhide HLP9).prog.c1
  have q2 := (unhide HLP9).prog.c2
  have q3 := (unhide HLP9).prog.c3
  go_wp2_with fail
  refine (unhide KB w9 (unhide HLP9)).mono ?_
  rintro _ w10 hpost
  obtain ⟨o3, c3, o4, c4, rfl, w11, hw11, HB11, HL11', hz10⟩ := after_run hpost
  have HW11 := hide hw11
  have HLP11 := hide ((unhide HLP9).below (unhide HL11'))
  have HLU11 := hide ((unhide HLU9).below (unhide HL11'))
  have HA11 := hide ((unhide HA9).below (unhide HL11'))
  have HL11 : Hid (Below w.heap.size w w11) := (unhide HL9).trans ((unhide HL11').mono (unhide HL9).size)
  clear hw11 hpost q0 q1 q2 q3 HLP9 HLU9 HL9 HA9 HL11' KB HW9
  go_upto_region 11 with fail
  rw [← unhide HW11]
  have a0 := (unhide HA11).c0
  have a1 := (unhide HA11).c1
  have a2 := (unhide HA11).c2
  have a3 := (unhide HA11).c3
  have a4 := (unhide HA11).c4
  have b0 := (unhide HB11).c0
  have b1 := (unhide HB11).c1
  have b2 := (unhide HB11).c2
  have b3 := (unhide HB11).c3
  have b4 := (unhide HB11).c4
  go_wp2_with fail
  refine (unhide G1 w11 w7.heap.size w9.heap.size _ _ (unhide HA11).res (unhide HB11).res).mono ?_
  rintro _ w13 ⟨rfl, hb13⟩
  have HLP13 := hide ((unhide HLP11).below hb13)
  have HLU13 := hide ((unhide HLU11).below hb13)
  have HL13 : Hid (Below w.heap.size w w13) := (unhide HL11).trans (hb13.mono (unhide HL11).size)
  clear hb13 a0 a1 a2 a3 a4 b0 b1 b2 b3 b4 HLP11 HLU11 HL11 HA11 HB11 G1 HW11
  obtain ⟨u0, u1, u2, u3, u4, u5⟩ := labu_cells (unhide HLU13)
  rw [← unhide HSE] at u1
  rw [← unhide HCE] at u4
  rw [← unhide HTE] at u5
  go_wp2_with fail
  refine (unhide KC w13 (unhide HLP13) (unhide HLU13)).mono ?_
  rintro _ w14 hpost
  obtain ⟨o5, c5, o6, c6, rfl, w15, hw15, HC15, HL15', hz14⟩ := after_run hpost
  have HW15 := hide hw15
  have HLP15 := hide ((unhide HLP13).below (unhide HL15'))
  have HLU15 := hide ((unhide HLU13).below (unhide HL15'))
  have HL15 : Hid (Below w.heap.size w w15) := (unhide HL13).trans ((unhide HL15').mono (unhide HL13).size)
  clear hw15 hpost u0 u1 u2 u3 u4 u5 HLP13 HLU13 HL13 HL15' KC
  go_upto_region 13 with fail
  rw [← unhide HW15]
  obtain ⟨u0, u1, u2, u3, u4, u5⟩ := labu_cells (unhide HLU15)
  rw [← unhide HSE] at u1
  rw [← unhide HCE] at u4
  rw [← unhide HTE] at u5
  go_wp2_with fail
  refine (unhide KD w15 (unhide HLP15) (unhide HLU15)).mono ?_
  rintro _ w16 hpost
  obtain ⟨o7, c7, o8, c8, rfl, w17, hw17, HD17, HL17', hz16⟩ := after_run hpost
  have HW17 := hide hw17
  have HC17 := hide ((unhide HC15).below (unhide HL17'))
  have HL17 : Hid (Below w.heap.size w w17) := (unhide HL15).trans ((unhide HL17').mono (unhide HL15).size)
  clear hw17 hpost u0 u1 u2 u3 u4 u5 HLP15 HLU15 HL15 HC15 HL17' KD HW15
  go_upto_region 14 with fail
  rw [← unhide HW17]
  have a0 := (unhide HC17).c0
  have a1 := (unhide HC17).c1
  have a2 := (unhide HC17).c2
  have a3 := (unhide HC17).c3
  have a4 := (unhide HC17).c4
  have b0 := (unhide HD17).c0
  have b1 := (unhide HD17).c1
  have b2 := (unhide HD17).c2
  have b3 := (unhide HD17).c3
  have b4 := (unhide HD17).c4
  go_wp2_with fail
  refine (unhide G2 w17 w13.heap.size w15.heap.size _ _ (unhide HC17).res (unhide HD17).res).mono ?_
  rintro _ w19 ⟨rfl, hb19⟩
  have HL19 : Hid (Below w.heap.size w w19) := (unhide HL17).trans (hb19.mono (unhide HL17).size)
  clear hb19 a0 a1 a2 a3 a4 b0 b1 b2 b3 b4 HL17 HC17 HD17 HW17
  go_wp2_with fail
  go_returns
  exact ⟨rfl, unhide HL19⟩
end Go.Proofs.YtoepcplbpochpabDoor

/-
  What came in, opened: a program's code, a list of numbers; and the table that the program's text lays.
-/
namespace Go.Proofs.YtoepcplbpochpabDoor
open Go.ChangeShapes Go.WideShapes Go.ChangeAt Go.RowKit Go.Deep

theorem Tryd.cells31 : Tryd.prog.cellsOf 31 = 4 := by kernel_rfl
theorem Tryd.cells3 : Tryd.prog.cellsOf 3 = 1 := by kernel_rfl
theorem Tryd.cells22 : Tryd.prog.cellsOf 22 = 1 := by kernel_rfl
theorem Tryd.cells24 : Tryd.prog.cellsOf 24 = 4 := by kernel_rfl
theorem Tryd.cells156 : Tryd.prog.cellsOf 156 = 3 := by kernel_rfl

set_option maxRecDepth 100000 in
theorem open_code {H : Type} {enc : TypeId × Value → H} {w : World} {base : Nat} {spare : Nat → Bool} {held : Bool} {fuel : Nat} {cs : List Value} {x : DataW H × List MemPlace}
    (h : DataW.trod enc Tryd.prog w base spare held fuel 22 cs = some x) :
    cs = [.slice none 0 0] ∨ ∃ (a : Addr) (len cap : Nat) (L : List In4) (elems rest : List (DataW H)), cs = [.slice (some a) len cap] ∧ L.length = len ∧ x.1 = .slice elems rest ∧ elems.length = len ∧ HeldIns w (some a) L := by
  rcases open_slice Tryd.underlying22 h with ⟨h0, _⟩ | ⟨a, len, cap, m, n, D, Pl, rfl, hb, hl, hm, hmm, rfl, hx⟩
  · exact .inl h0
  right
  have hlm : len ≤ m := by rw [hmm]; split <;> omega
  have each : ∀ i, i < len → ∃ r : In4, w.cell? (a.add (i * 4)) = some (.int .i64 r.op) ∧ w.cell? (a.add (i * 4 + 1)) = some (.int .i64 r.d) ∧ w.cell? (a.add (i * 4 + 2)) = some (.int .i64 r.a) ∧ w.cell? (a.add (i * 4 + 3)) = some (.int .i64 r.b) := by
    intro i hi
    obtain ⟨cs', h1, h2⟩ := hx i (by omega)
    rw [Tryd.cells31] at h1
    obtain ⟨_, hlen, hcell⟩ := World.cells?_some h1
    obtain ⟨xs, k, hk, hxy, _, hxl, hf⟩ := DataW.trod_struct Tryd.underlying31 h2
    match xs, hxl, cs', hlen with
    | [y0, y1, y2, y3], _, [v0, v1, v2, v3], _ =>
      have g0 := hf 0 _ rfl
      have g1 := hf 1 _ rfl
      have g2 := hf 2 _ rfl
      have g3 := hf 3 _ rfl
      simp [Tryd.cells3] at g0 g1 g2 g3
      obtain ⟨z0, e0, _, _⟩ := DataW.trod_int Tryd.underlying3 g0
      obtain ⟨z1, e1, _, _⟩ := DataW.trod_int Tryd.underlying3 g1
      obtain ⟨z2, e2, _, _⟩ := DataW.trod_int Tryd.underlying3 g2
      obtain ⟨z3, e3, _, _⟩ := DataW.trod_int Tryd.underlying3 g3
      simp only [List.cons.injEq, and_true] at e0 e1 e2 e3
      subst e0 e1 e2 e3
      have c0 := hcell 0 (by omega)
      have c1 := hcell 1 (by omega)
      have c2 := hcell 2 (by omega)
      have c3 := hcell 3 (by omega)
      rw [add_add] at c0 c1 c2 c3
      exact ⟨⟨z0, z1, z2, z3⟩, by simpa using c0, by simpa using c1, by simpa using c2, by simpa using c3⟩
  have inh : Inhabited In4 := ⟨⟨0, 0, 0, 0⟩⟩
  obtain ⟨q, hq⟩ := choose_lt each
  have e : ∀ i, i < len → inAt ((List.range len).map q) i = q i := fun i hi => by unfold inAt; simp [hi]
  refine ⟨a, len, cap, (List.range len).map q, _, _, rfl, by simp, rfl, by simp, ?_⟩
  by_cases h0 : len = 0
  · exact .inl (by rw [h0]; rfl)
  obtain ⟨b, off, spot⟩ := a
  have hc := (hq 0 (by omega)).1
  have hspot : spot = none := by simpa [Addr.add] using World.cell?_spot hc
  subst hspot
  have hadd : ∀ j, (⟨b, off, none⟩ : Addr).add j = ⟨b, off + j, none⟩ := fun j => by unfold Addr.add; split <;> simp_all
  refine .inr ⟨b, off, rfl, ?_, fun i hi => ?_⟩
  · rw [hadd] at hc; exact World.block_lt_of_cell? w _ hc
  · rw [List.length_map, List.length_range] at hi
    obtain ⟨k0, k1, k2, k3⟩ := hq i hi
    rw [hadd] at k0 k1 k2 k3
    rw [e i hi]
    exact ⟨k0, k1, k2, k3⟩

set_option maxRecDepth 100000 in
theorem open_nums {H : Type} {enc : TypeId × Value → H} {w : World} {base : Nat} {spare : Nat → Bool} {held : Bool} {fuel : Nat} {cs : List Value} {x : DataW H × List MemPlace}
    (h : DataW.trod enc Tryd.prog w base spare held fuel 25 cs = some x) :
    cs = [.slice none 0 0] ∨ ∃ (a : Addr) (len cap : Nat) (L : List Int) (elems rest : List (DataW H)), cs = [.slice (some a) len cap] ∧ L.length = len ∧ x.1 = .slice elems rest ∧ elems.length = len ∧ HeldI w (some a) L := by
  rcases open_slice Tryd.underlying25 h with ⟨h0, _⟩ | ⟨a, len, cap, m, n, D, Pl, rfl, hb, hl, hm, hmm, rfl, hx⟩
  · exact .inl h0
  right
  have hlm : len ≤ m := by rw [hmm]; split <;> omega
  have each : ∀ i, i < len → ∃ r : Int, w.cell? (a.add i) = some (.int .i64 r) := by
    intro i hi
    obtain ⟨cs', h1, h2⟩ := hx i (by omega)
    rw [Tryd.cells3] at h1
    obtain ⟨_, hlen, hcell⟩ := World.cells?_some h1
    match cs', hlen with
    | [v0], _ =>
      obtain ⟨z0, e0, _, _⟩ := DataW.trod_int Tryd.underlying3 h2
      simp only [List.cons.injEq, and_true] at e0
      subst e0
      have c0 := hcell 0 (by omega)
      rw [add_add] at c0
      exact ⟨z0, by simpa using c0⟩
  have inh : Inhabited Int := ⟨0⟩
  obtain ⟨q, hq⟩ := choose_lt each
  have e : ∀ i, i < len → nth ((List.range len).map q) i = q i := fun i hi => by unfold nth; simp [hi]
  refine ⟨a, len, cap, (List.range len).map q, _, _, rfl, by simp, rfl, by simp, ?_⟩
  by_cases h0 : len = 0
  · exact .inl (by rw [h0]; rfl)
  obtain ⟨b, off, spot⟩ := a
  have hc := hq 0 (by omega)
  have hspot : spot = none := by simpa [Addr.add] using World.cell?_spot hc
  subst hspot
  have hadd : ∀ j, (⟨b, off, none⟩ : Addr).add j = ⟨b, off + j, none⟩ := fun j => by unfold Addr.add; split <;> simp_all
  refine .inr ⟨b, off, rfl, ?_, fun i hi => ?_⟩
  · rw [hadd] at hc; exact World.block_lt_of_cell? w _ hc
  · rw [List.length_map, List.length_range] at hi
    have k0 := hq i hi
    rw [hadd] at k0
    rw [e i hi]
    exact k0

set_option maxRecDepth 100000 in
theorem open_prog {H : Type} {enc : TypeId × Value → H} {w : World} {base : Nat} {spare : Nat → Bool} {held : Bool} {fuel : Nat} {cl : List Value} {x : DataW H × List MemPlace}
    (h : DataW.trod enc Tryd.prog w base spare held fuel 24 cl = some x) :
    ∃ (P R V : Int) (ac : Option Addr) (L : List In4) (cc : Nat), cl = [.int .i64 P, .int .i64 R, .int .i64 V, .slice ac L.length cc] ∧ HeldIns w ac L ∧ (L = [] ∨ ∃ y0 y1 y2 elems rest, x.1 = .agg [y0, y1, y2, .slice elems rest] ∧ elems.length = L.length) := by
  obtain ⟨xs, n, _, hxy, hl, hxl, hf⟩ := DataW.trod_struct Tryd.underlying24 h
  rw [Tryd.cells24] at hl
  match xs, hxl, cl, hl with
  | [y0, y1, y2, y3], _, [c0, c1, c2, c3], _ =>
    have g0 := hf 0 _ rfl
    have g1 := hf 1 _ rfl
    have g2 := hf 2 _ rfl
    have g3 := hf 3 _ rfl
    simp [Tryd.cells3, Tryd.cells22] at g0 g1 g2 g3
    obtain ⟨z0, e0, _, _⟩ := DataW.trod_int Tryd.underlying3 g0
    obtain ⟨z1, e1, _, _⟩ := DataW.trod_int Tryd.underlying3 g1
    obtain ⟨z2, e2, _, _⟩ := DataW.trod_int Tryd.underlying3 g2
    simp only [List.cons.injEq, and_true] at e0 e1 e2
    subst e0 e1 e2
    rcases open_code g3 with hc | ⟨a, l, c, L, elems, rest, hc, hR, hx, he, hh⟩
    · simp only [List.cons.injEq, and_true] at hc
      subst hc
      exact ⟨z0, z1, z2, none, [], 0, rfl, .inl rfl, .inl rfl⟩
    · simp only [List.cons.injEq, and_true] at hc
      subst hc
      refine ⟨z0, z1, z2, some a, L, c, by rw [hR], hh, .inr ⟨y0.1, y1.1, y2.1, elems, rest, ?_, by rw [he, hR]⟩⟩
      rw [hxy, ← hx]
      rfl
theorem sized_prog {H : Type} {ts : List TypeId} {ds : List (DataW H)} {y0 y1 y2 : DataW H} {elems rest : List (DataW H)} (h : (DataW.weightsEach Tryd.prog ts ds).all (· ≤ reachBytes) = true) (ht : ts[0]? = some 24) (hd : ds[0]? = some (.agg [y0, y1, y2, .slice elems rest])) : elems.length * 32 ≤ 140737488351232 := by
  have hm : (elems.length + rest.length) * Tryd.prog.bytesOf 31 ∈ (DataW.agg [y0, y1, y2, .slice elems rest] : DataW H).weights Tryd.prog 24 := by
    simp [DataW.weights, Tryd.underlying24, DataW.weightsEach, Tryd.underlying22]
  have := List.all_eq_true.1 h _ (DataW.weights_mem_each ht hd _ hm)
  rw [show Tryd.prog.bytesOf 31 = 32 by kernel_rfl] at this
  unfold reachBytes at this
  simp at this
  omega

theorem Tryd.cells9 : Tryd.prog.cellsOf 9 = 1 := by kernel_rfl
theorem Tryd.cells33 : Tryd.prog.cellsOf 33 = 6 := by kernel_rfl
set_option maxRecDepth 100000 in
theorem open_unit {H : Type} {enc : TypeId × Value → H} {w : World} {base : Nat} {spare : Nat → Bool} {held : Bool} {fuel : Nat} {cl : List Value} {x : DataW H × List MemPlace}
    (h : DataW.trod enc Tryd.prog w base spare held fuel 33 cl = some x) :
    ∃ (K S P V : Int) (ac : Option Addr) (L : List In4) (cc : Nat) (T : ByteArray), cl = [.int .i64 K, .int .i64 S, .int .i64 P, .int .i64 V, .slice ac L.length cc, .string T] ∧ HeldIns w ac L ∧ T.size ≤ maxLen ∧ (L = [] ∨ ∃ y0 y1 y2 y3 elems rest y5, x.1 = .agg [y0, y1, y2, y3, .slice elems rest, y5] ∧ elems.length = L.length) := by
  obtain ⟨xs, n, _, hxy, hl, hxl, hf⟩ := DataW.trod_struct Tryd.underlying33 h
  rw [Tryd.cells33] at hl
  match xs, hxl, cl, hl with
  | [y0, y1, y2, y3, y4, y5], _, [c0, c1, c2, c3, c4, c5], _ =>
    have g0 := hf 0 _ rfl
    have g1 := hf 1 _ rfl
    have g2 := hf 2 _ rfl
    have g3 := hf 3 _ rfl
    have g4 := hf 4 _ rfl
    have g5 := hf 5 _ rfl
    simp [Tryd.cells3, Tryd.cells22, Tryd.cells9] at g0 g1 g2 g3 g4 g5
    obtain ⟨z0, e0, _, _⟩ := DataW.trod_int Tryd.underlying3 g0
    obtain ⟨z1, e1, _, _⟩ := DataW.trod_int Tryd.underlying3 g1
    obtain ⟨z2, e2, _, _⟩ := DataW.trod_int Tryd.underlying3 g2
    obtain ⟨z3, e3, _, _⟩ := DataW.trod_int Tryd.underlying3 g3
    obtain ⟨T, e5, _, hT⟩ := DataW.trod_string Tryd.underlying9 g5
    simp only [List.cons.injEq, and_true] at e0 e1 e2 e3 e5
    subst e0 e1 e2 e3 e5
    rcases open_code g4 with hc | ⟨a, l, c, L, elems, rest, hc, hR, hx, he, hh⟩
    · simp only [List.cons.injEq, and_true] at hc
      subst hc
      exact ⟨z0, z1, z2, z3, none, [], 0, T, rfl, .inl rfl, hT, .inl rfl⟩
    · simp only [List.cons.injEq, and_true] at hc
      subst hc
      refine ⟨z0, z1, z2, z3, some a, L, c, T, by rw [hR], hh, hT, .inr ⟨y0.1, y1.1, y2.1, y3.1, elems, rest, y5.1, ?_, by rw [he, hR]⟩⟩
      rw [hxy, ← hx]
      rfl
theorem sized_unit {H : Type} {ts : List TypeId} {ds : List (DataW H)} {y0 y1 y2 y3 y5 : DataW H} {elems rest : List (DataW H)} {j : Nat} (h : (DataW.weightsEach Tryd.prog ts ds).all (· ≤ reachBytes) = true) (ht : ts[j]? = some 33) (hd : ds[j]? = some (.agg [y0, y1, y2, y3, .slice elems rest, y5])) : elems.length * 32 ≤ 140737488351232 := by
  have hm : (elems.length + rest.length) * Tryd.prog.bytesOf 31 ∈ (DataW.agg [y0, y1, y2, y3, .slice elems rest, y5] : DataW H).weights Tryd.prog 33 := by
    simp [DataW.weights, Tryd.underlying33, DataW.weightsEach, Tryd.underlying22]
  have := List.all_eq_true.1 h _ (DataW.weights_mem_each ht hd _ hm)
  rw [show Tryd.prog.bytesOf 31 = 32 by kernel_rfl] at this
  unfold reachBytes at this
  simp at this
  omega

theorem gKinds : Tryd.prog.globalNamed "lodge/code.kinds" = some 0 := by kernel_rfl
theorem tKinds : (Tryd.prog.globals[0]?).map (·.type) = some 157 := by kernel_rfl
theorem laid_kinds {H : Type} : (Rows.laid_lodge_code_kinds : DataW H) = .agg (kindL.map fun r => .agg (r.map fun k => .lit (.int .i64 k))) := rfl
theorem kind_row (o j : Nat) (ho : o < 17) (hj : j < 3) : ∃ r, kindL[o]? = some r ∧ r[j]? = some (kindAt o j) := by
  rcases (show o = 0 ∨ o = 1 ∨ o = 2 ∨ o = 3 ∨ o = 4 ∨ o = 5 ∨ o = 6 ∨ o = 7 ∨ o = 8 ∨ o = 9 ∨ o = 10 ∨ o = 11 ∨ o = 12 ∨ o = 13 ∨ o = 14 ∨ o = 15 ∨ o = 16 by omega) with rfl | rfl | rfl | rfl | rfl | rfl | rfl | rfl | rfl | rfl | rfl | rfl | rfl | rfl | rfl | rfl | rfl
  all_goals
    rcases (show j = 0 ∨ j = 1 ∨ j = 2 by omega) with rfl | rfl | rfl <;> exact ⟨_, rfl, rfl⟩

/-- What the condition on the table gives the walks. -/
theorem of_laid {W : World} (h : laidMetH Tryd.prog [("lodge/code.kinds", Rows.laid_lodge_code_kinds)] W) : Tab W := by
  rw [MakeChecks.laidMetH_plain _ _ _ (by kernel_rfl)] at h
  obtain ⟨ps, ⟨g0, t0, cs, f0, p0, q0, hg0, ht0, hv0, hd0, _, _⟩, _⟩ := h
  obtain rfl := Option.some.inj (gKinds.symm.trans hg0)
  obtain rfl := Option.some.inj (tKinds.symm.trans ht0)
  obtain ⟨xs, m, rfl, hx, hlen, hn, hel⟩ := DataW.trod_array Tryd.underlying157 hd0
  simp only [Prod.mk.injEq] at hx
  rw [laid_kinds, DataW.agg.injEq] at hx
  intro o j ho hj
  obtain ⟨r, hr, hrj⟩ := kind_row o j ho hj
  have h1 := hel o ho
  obtain ⟨x, hxo⟩ : ∃ x, xs[o]? = some x := ⟨xs[o]'(by omega), List.getElem?_eq_getElem _⟩
  rw [hxo] at h1
  have hd1 : x.1 = .agg (r.map fun k => .lit (.int .i64 k)) := by
    have e := congrArg (fun l : List (DataW _) => l[o]?) hx.1
    simp only [List.getElem?_map, hr, hxo, Option.map_some, Option.some.injEq] at e
    exact e.symm
  obtain ⟨ys, m', rfl, hy, hly, hny, hel'⟩ := DataW.trod_array Tryd.underlying156 h1
  have h2 := hel' j hj
  obtain ⟨y, hyj⟩ : ∃ y, ys[j]? = some y := ⟨ys[j]'(by omega), List.getElem?_eq_getElem _⟩
  rw [hyj] at h2
  have hd2 : y.1 = .lit (.int .i64 (kindAt o j)) := by
    rw [hy] at hd1
    simp only [DataW.agg.injEq] at hd1
    have e := congrArg (fun l : List (DataW _) => l[j]?) hd1
    simp only [List.getElem?_map, hrj, hyj, Option.map_some, Option.some.injEq] at e
    exact e
  obtain ⟨k, e1, e2, _⟩ := DataW.trod_int Tryd.underlying3 h2
  have hk : k = kindAt o j := by rw [e2] at hd2; simpa using hd2
  subst hk
  have hcell := World.var?_cell hg0 hv0 (o * 3 + j)
  rw [hcell]
  rw [Tryd.cells156, Tryd.cells3] at e1
  have e3 := congrArg (fun l : List Value => l[0]?) e1
  simp only [Nat.mul_one, List.getElem?_take, List.getElem?_drop, Nat.add_zero, List.getElem?_cons_zero] at e3
  rw [if_pos (by omega), if_pos hj, Array.getElem?_toList] at e3
  exact e3
end Go.Proofs.YtoepcplbpochpabDoor

/-
  What came in, opened, with the bounds of its numbers.
-/
namespace Go.Proofs.YtoepcplbpochpabDoor
open Go.ChangeShapes Go.WideShapes Go.ChangeAt Go.RowKit Go.Deep

set_option maxRecDepth 100000 in
theorem open_codeR {H : Type} {enc : TypeId × Value → H} {w : World} {base : Nat} {spare : Nat → Bool} {held : Bool} {fuel : Nat} {cs : List Value} {x : DataW H × List MemPlace}
    (h : DataW.trod enc Tryd.prog w base spare held fuel 22 cs = some x) :
    cs = [.slice none 0 0] ∨ ∃ (a : Addr) (len cap : Nat) (L : List In4) (elems rest : List (DataW H)), cs = [.slice (some a) len cap] ∧ L.length = len ∧ x.1 = .slice elems rest ∧ elems.length = len ∧ HeldIns w (some a) L ∧ RngI L ∧ len ≤ cap := by
  rcases open_slice Tryd.underlying22 h with ⟨h0, _⟩ | ⟨a, len, cap, m, n, D, Pl, rfl, hb, hl, hm, hmm, rfl, hx⟩
  · exact .inl h0
  right
  have hlm : len ≤ m := by rw [hmm]; split <;> omega
  have each : ∀ i, i < len → ∃ r : In4, w.cell? (a.add (i * 4)) = some (.int .i64 r.op) ∧ w.cell? (a.add (i * 4 + 1)) = some (.int .i64 r.d) ∧ w.cell? (a.add (i * 4 + 2)) = some (.int .i64 r.a) ∧ w.cell? (a.add (i * 4 + 3)) = some (.int .i64 r.b) ∧ Rng r.op ∧ Rng r.d ∧ Rng r.a ∧ Rng r.b := by
    intro i hi
    obtain ⟨cs', h1, h2⟩ := hx i (by omega)
    rw [Tryd.cells31] at h1
    obtain ⟨_, hlen, hcell⟩ := World.cells?_some h1
    obtain ⟨xs, k, hk, hxy, _, hxl, hf⟩ := DataW.trod_struct Tryd.underlying31 h2
    match xs, hxl, cs', hlen with
    | [y0, y1, y2, y3], _, [v0, v1, v2, v3], _ =>
      have g0 := hf 0 _ rfl
      have g1 := hf 1 _ rfl
      have g2 := hf 2 _ rfl
      have g3 := hf 3 _ rfl
      simp [Tryd.cells3] at g0 g1 g2 g3
      obtain ⟨z0, e0, _, f0⟩ := DataW.trod_int Tryd.underlying3 g0
      obtain ⟨z1, e1, _, f1⟩ := DataW.trod_int Tryd.underlying3 g1
      obtain ⟨z2, e2, _, f2⟩ := DataW.trod_int Tryd.underlying3 g2
      obtain ⟨z3, e3, _, f3⟩ := DataW.trod_int Tryd.underlying3 g3
      simp only [List.cons.injEq, and_true] at e0 e1 e2 e3
      subst e0 e1 e2 e3
      have c0 := hcell 0 (by omega)
      have c1 := hcell 1 (by omega)
      have c2 := hcell 2 (by omega)
      have c3 := hcell 3 (by omega)
      rw [add_add] at c0 c1 c2 c3
      exact ⟨⟨z0, z1, z2, z3⟩, by simpa using c0, by simpa using c1, by simpa using c2, by simpa using c3, bounds_i64 f0, bounds_i64 f1, bounds_i64 f2, bounds_i64 f3⟩
  have inh : Inhabited In4 := ⟨⟨0, 0, 0, 0⟩⟩
  obtain ⟨q, hq⟩ := choose_lt each
  have e : ∀ i, i < len → inAt ((List.range len).map q) i = q i := fun i hi => by unfold inAt; simp [hi]
  refine ⟨a, len, cap, (List.range len).map q, _, _, rfl, by simp, rfl, by simp, ?_, fun i hi => ?_, hl⟩
  case refine_2 =>
    rw [List.length_map, List.length_range] at hi
    rw [e i hi]
    obtain ⟨_, _, _, _, g0, g1, g2, g3⟩ := hq i hi
    exact ⟨g0, g1, g2, g3⟩
  by_cases h0 : len = 0
  · exact .inl (by rw [h0]; rfl)
  obtain ⟨b, off, spot⟩ := a
  have hc := (hq 0 (by omega)).1
  have hspot : spot = none := by simpa [Addr.add] using World.cell?_spot hc
  subst hspot
  have hadd : ∀ j, (⟨b, off, none⟩ : Addr).add j = ⟨b, off + j, none⟩ := fun j => by unfold Addr.add; split <;> simp_all
  refine .inr ⟨b, off, rfl, ?_, fun i hi => ?_⟩
  · rw [hadd] at hc; exact World.block_lt_of_cell? w _ hc
  · rw [List.length_map, List.length_range] at hi
    obtain ⟨k0, k1, k2, k3, _⟩ := hq i hi
    rw [hadd] at k0 k1 k2 k3
    rw [e i hi]
    exact ⟨k0, k1, k2, k3⟩

set_option maxRecDepth 100000 in
theorem open_numsR {H : Type} {enc : TypeId × Value → H} {w : World} {base : Nat} {spare : Nat → Bool} {held : Bool} {fuel : Nat} {cs : List Value} {x : DataW H × List MemPlace}
    (h : DataW.trod enc Tryd.prog w base spare held fuel 25 cs = some x) :
    cs = [.slice none 0 0] ∨ ∃ (a : Addr) (len cap : Nat) (L : List Int) (elems rest : List (DataW H)), cs = [.slice (some a) len cap] ∧ L.length = len ∧ x.1 = .slice elems rest ∧ elems.length = len ∧ HeldI w (some a) L ∧ (∀ i, i < L.length → Rng (nth L i)) := by
  rcases open_slice Tryd.underlying25 h with ⟨h0, _⟩ | ⟨a, len, cap, m, n, D, Pl, rfl, hb, hl, hm, hmm, rfl, hx⟩
  · exact .inl h0
  right
  have hlm : len ≤ m := by rw [hmm]; split <;> omega
  have each : ∀ i, i < len → ∃ r : Int, w.cell? (a.add i) = some (.int .i64 r) ∧ Rng r := by
    intro i hi
    obtain ⟨cs', h1, h2⟩ := hx i (by omega)
    rw [Tryd.cells3] at h1
    obtain ⟨_, hlen, hcell⟩ := World.cells?_some h1
    match cs', hlen with
    | [v0], _ =>
      obtain ⟨z0, e0, _, f0⟩ := DataW.trod_int Tryd.underlying3 h2
      simp only [List.cons.injEq, and_true] at e0
      subst e0
      have c0 := hcell 0 (by omega)
      rw [add_add] at c0
      exact ⟨z0, by simpa using c0, bounds_i64 f0⟩
  have inh : Inhabited Int := ⟨0⟩
  obtain ⟨q, hq⟩ := choose_lt each
  have e : ∀ i, i < len → nth ((List.range len).map q) i = q i := fun i hi => by unfold nth; simp [hi]
  refine ⟨a, len, cap, (List.range len).map q, _, _, rfl, by simp, rfl, by simp, ?_, fun i hi => ?_⟩
  case refine_2 =>
    rw [List.length_map, List.length_range] at hi
    rw [e i hi]
    exact (hq i hi).2
  by_cases h0 : len = 0
  · exact .inl (by rw [h0]; rfl)
  obtain ⟨b, off, spot⟩ := a
  have hc := (hq 0 (by omega)).1
  have hspot : spot = none := by simpa [Addr.add] using World.cell?_spot hc
  subst hspot
  have hadd : ∀ j, (⟨b, off, none⟩ : Addr).add j = ⟨b, off + j, none⟩ := fun j => by unfold Addr.add; split <;> simp_all
  refine .inr ⟨b, off, rfl, ?_, fun i hi => ?_⟩
  · rw [hadd] at hc; exact World.block_lt_of_cell? w _ hc
  · rw [List.length_map, List.length_range] at hi
    have k0 := (hq i hi).1
    rw [hadd] at k0
    rw [e i hi]
    exact k0

set_option maxRecDepth 100000 in
theorem open_progR {H : Type} {enc : TypeId × Value → H} {w : World} {base : Nat} {spare : Nat → Bool} {held : Bool} {fuel : Nat} {cl : List Value} {x : DataW H × List MemPlace}
    (h : DataW.trod enc Tryd.prog w base spare held fuel 24 cl = some x) :
    ∃ (P R V : Int) (ac : Option Addr) (L : List In4) (cc : Nat), cl = [.int .i64 P, .int .i64 R, .int .i64 V, .slice ac L.length cc] ∧ HeldIns w ac L ∧ RngI L ∧ Rng P ∧ Rng R ∧ Rng V ∧ L.length ≤ cc ∧ (L = [] ∨ ∃ y0 y1 y2 elems rest, x.1 = .agg [y0, y1, y2, .slice elems rest] ∧ elems.length = L.length) := by
  obtain ⟨xs, n, _, hxy, hl, hxl, hf⟩ := DataW.trod_struct Tryd.underlying24 h
  rw [Tryd.cells24] at hl
  match xs, hxl, cl, hl with
  | [y0, y1, y2, y3], _, [c0, c1, c2, c3], _ =>
    have g0 := hf 0 _ rfl
    have g1 := hf 1 _ rfl
    have g2 := hf 2 _ rfl
    have g3 := hf 3 _ rfl
    simp [Tryd.cells3, Tryd.cells22] at g0 g1 g2 g3
    obtain ⟨z0, e0, _, f0⟩ := DataW.trod_int Tryd.underlying3 g0
    obtain ⟨z1, e1, _, f1⟩ := DataW.trod_int Tryd.underlying3 g1
    obtain ⟨z2, e2, _, f2⟩ := DataW.trod_int Tryd.underlying3 g2
    simp only [List.cons.injEq, and_true] at e0 e1 e2
    subst e0 e1 e2
    rcases open_codeR g3 with hc | ⟨a, l, c, L, elems, rest, hc, hR, hx, he, hh, hr, hlc⟩
    · simp only [List.cons.injEq, and_true] at hc
      subst hc
      exact ⟨z0, z1, z2, none, [], 0, rfl, .inl rfl, fun i hi => absurd hi (Nat.not_lt_zero _), bounds_i64 f0, bounds_i64 f1, bounds_i64 f2, Nat.le_refl _, .inl rfl⟩
    · simp only [List.cons.injEq, and_true] at hc
      subst hc
      refine ⟨z0, z1, z2, some a, L, c, by rw [hR], hh, hr, bounds_i64 f0, bounds_i64 f1, bounds_i64 f2, by rw [hR]; exact hlc, .inr ⟨y0.1, y1.1, y2.1, elems, rest, ?_, by rw [he, hR]⟩⟩
      rw [hxy, ← hx]
      rfl
end Go.Proofs.YtoepcplbpochpabDoor
