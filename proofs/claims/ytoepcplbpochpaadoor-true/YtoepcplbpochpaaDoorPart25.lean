/-
  The walk through lodgekeep.True.
-/
import Derived.Test.YtoepcplbpochpaaDoorPart24
import Derived.Test.YtoepcplbpochpaaDoorPart12
import Derived.Deep.Slices
import Derived.ProofKit
import Derived.LaidMore
import Derived.OpenShut
import Derived.Stop.Joined
import Derived.SizedLaws
import Derived.Test.YtoepcplbpochpaaDoorPart21

namespace Go.Proofs.YtoepcplbpochpaaDoor
open Go.RowKit

/-- What is told at each Stop is the variable's value there. -/
def TrueOk (V : Nat) (s t : St) : Prop := ∀ n, n < s.stops.length → n < t.stops.length → ∀ v, v < 4 → ((snAt t.stops n).v v = -1 ∨ (snAt t.stops n).v v = (snAt s.stops n).v v) ∧ (V ≤ v → (snAt s.stops n).v v = -1)
theorem true_ok {L : List In4} {V : Nat} {pl : List Nat} {s t : St} (h : AllStops L V pl s t) : TrueOk V s t := fun n h1 _ v hv => by
  obtain ⟨x, y, i, e1, e2, _, e4⟩ := h n h1
  have hx : snAt t.stops n = x := by unfold snAt; rw [List.getD_eq_getElem?_getD, e1]; rfl
  have hy : snAt s.stops n = y := by unfold snAt; rw [List.getD_eq_getElem?_getD, e2]; rfl
  rw [hx, hy]
  refine ⟨?_, e4.bare v hv⟩
  by_cases c : v < V ∧ canB (factB L i v) (liveB L i) = true
  · exact .inr (e4.told v hv c.1 c.2).1
  · exact .inl (e4.none v hv c)

set_option maxRecDepth 100000 in
set_option maxHeartbeats 8000000 in
theorem true_walk (P0 R0 V0 : Int) (L0 : List In4) (ac : Option Addr) (cc : Nat) (k : Int) (nums : List Int) (na : Option Addr) (nc : Nat) (n : Int) (w : World) (hH : HeldIns w ac L0) (hv : RngI L0) (hP0 : Rng P0) (hR0 : Rng R0) (hV0 : Rng V0) (hl : L0.length ≤ 9223372036854775807) (hcc : L0.length ≤ cc)
    (hA : HeldI w na nums) (hnv : ∀ i, i < nums.length → Rng (nth nums i)) (hnl : nums.length ≤ 9223372036854775807) (hk : Rng k) (hn : Rng n) (hT : Tab w) (hw0 : 0 < w.heap.size) :
    Calls Tryd.prog 10 #[.agg #[.int .i64 P0, .int .i64 R0, .int .i64 V0, .slice ac L0.length cc], .int .i64 k, .slice na nums.length nc, .int .i64 n] w fun e w' => e = .returned (.bool true) ∧ Below w.heap.size w w' := by
  have bn := pick_lt n 25000 (by decide)
  obtain ⟨f, hfe⟩ : ∃ f : Nat, (f : Int) = pickI n 25000 := ⟨(pickI n 25000).toNat, by omega⟩
  have hf : f < 25000 := by omega
  have HFE := hide hfe
  clear hfe bn
  have KP := hide (fun (c n : Int) (w : World) (h : Rng c) (hn : 0 < n) => pick_any c n w h.1 h.2 hn)
  obtain ⟨w1, hw1, HP1, HL1, hz1⟩ := box_prog w P0 R0 V0 (.slice ac L0.length cc)
  have HW := hide hw1
  have KR := hide (right_any P0 R0 V0 L0 ac cc 40 12 w1 (hH.below' (unhide HL1)) hv hP0 hR0 hV0 hl hcc (by omega) (by omega) (by omega) (by omega))
  have HT := hide hT
  have HN := hide hA
  have HNV := hide hnv
  clear hw1 hH hT hA hnv
  have bK := pick_lt k 15 (by decide)
  obtain ⟨K, hKe⟩ : ∃ K : Nat, (K : Int) = 2 + pickI k 15 := ⟨(2 + pickI k 15).toNat, by omega⟩
  have hK : 2 ≤ K := by omega
  have hK' : K ≤ 16 := by omega
  have HKE := hide hKe
  clear hKe
  go_enter Tryd.func10, Tryd.ntmps10
  go_upto_region 1 with fail
  rw [← unhide HW]
  have p0 := (unhide HP1).c0
  have p1 := (unhide HP1).c1
  have p2 := (unhide HP1).c2
  have p3 := (unhide HP1).c3
  go_wp2_with fail
  refine (unhide KR).mono ?_
  rintro _ w2 ⟨P, R, V, L, ao, cap, rfl, hp, hR12, hL40, hown, hb2⟩
  clear p0 p1 p2 p3 KR HP1 HW
  have hz2 := hb2.size
  obtain ⟨w3, hw3, HP3, HL3', hz3⟩ := box_prog w2 P R V (.slice ao L.length cap)
  have HL3 : Hid (Below w.heap.size w w3) := ((unhide HL1).trans (hb2.mono (by omega))).trans ((unhide HL3').mono (by omega))
  have HC3 : Hid (HeldIns w3 ao L) := (held_own hown).below' (unhide HL3')
  have HW3 := hide hw3
  clear hw3 hb2 hown HL1 HL3'
  go_upto_region 2 with fail
  rw [← unhide HW3]
  go_wp2_with fail
  refine (unhide KP k 15 _ hk (by decide)).mono ?_
  rintro _ w4 ⟨rfl, hw4⟩
  rw [hw4]
  clear hw4
  have q0 := (unhide HP3).c0
  go_wp2_with fail
  rw [← unhide HKE]
  have hP4 : P ≤ 4 := by have := hp.p4; omega
  refine (fit_any nums na nc P w3 ((unhide HN).below (unhide HL3)) (unhide HNV) hnl hP4).mono ?_
  rintro _ w5 ⟨va, rfl, hown5, hb5⟩
  have hx : ArgsOk (fitTo nums P) P := fit_args
  obtain ⟨aa, ca, hve, hA5, _⟩ := own_heldI (xs := fitTo nums P) (by rw [fitTo_len]; exact hown5)
  subst hve
  obtain ⟨xs, hxs⟩ : ∃ xs, xs = fitTo nums P := ⟨_, rfl⟩
  rw [← hxs] at hx hA5
  rw [← hxs]
  have HLP5 : Hid (LabP w5 w2.heap.size P R V L ao cap aa xs) := ⟨(hb5.block _ (by omega)).trans (unhide HP3), (unhide HC3).below' hb5, hA5, ((unhide HT).below (unhide HL3) hw0).below hb5 (by omega), by have := hb5.size; omega⟩
  have HL5 : Hid (Below w.heap.size w w5) := (unhide HL3).trans (hb5.mono (unhide HL3).size)
  clear hown5 hA5 hb5 HP3 HC3 HL3 hxs HW3 q0 HN HNV
  have KY := hide (ready_any P R V K L ao aa cap ca xs w5 hp hK hK' hx (unhide HLP5).code (unhide HLP5).args (unhide HLP5).tab (unhide HLP5).pos)
  have q0 := (unhide HLP5).prog.c0
  have q1 := (unhide HLP5).prog.c1
  have q2 := (unhide HLP5).prog.c2
  have q3 := (unhide HLP5).prog.c3
  go_wp2_with fail
  refine (unhide KY).mono ?_
  rintro _ w6 ⟨uo, uc, rfl, hH6, _, hb6⟩
  unfold unitV
  clear q0 q1 q2 q3 KY
  obtain ⟨w7, hw7, HU7', HL7', hz7⟩ := box_unit w6 K (slotsB L P R K) P V (.slice uo (cmpC P R K L).length uc) (encT (cmpR P R V K L))
  have HLU7 : Hid (LabU w7 w6.heap.size P R V K L uo uc) := ⟨unhide HU7', hH6.below' (unhide HL7')⟩
  have hb57 : Below w5.heap.size w5 w7 := hb6.trans ((unhide HL7').mono hb6.size)
  have HLP7 := hide ((unhide HLP5).below hb57)
  have HL7 : Hid (Below w.heap.size w w7) := (unhide HL5).trans (hb57.mono (unhide HL5).size)
  have HW7 := hide hw7
  clear hw7 hb6 hb57 hH6 HLP5 HL5 HU7' HL7'
  go_upto_region 5 with fail
  rw [← unhide HW7]
  have KA := hide (fun w (h : LabP w w2.heap.size P R V L ao cap aa xs) => lab_run hp hx ao aa cap ca f (by omega) w h.code h.args h.tab h.pos)
  have KB := hide (fun w (h : LabP w w2.heap.size P R V L ao cap aa xs) (h' : LabU w w6.heap.size P R V K L uo uc) => lab_mach hp hK hK' hx uo aa uc ca (4 * f + 4) (by omega) w h'.code h.args h.tab h.pos)
  have hSF := sim_fwd hp hK hK' none xs hx.len hx.val f
  have hGA := hSF.1.ok
  have hTO := true_ok hSF.2.1
  obtain ⟨sa, hsa⟩ : ∃ sa, sa = runSt L f (st0 xs) := ⟨_, rfl⟩
  obtain ⟨sb, hsb⟩ : ∃ sb, sb = runSt (cmpC P R K L) (4 * f + 4) (stU (cmpR P R V K L) none xs) := ⟨_, rfl⟩
  rw [← hsa] at KA hGA hTO
  rw [← hsb] at KB hGA hTO
  have HGA := hide hGA
  have HTO := hide hTO
  rw [show ((4 * f + 4 : Nat) : Int) = 4 * (f : Int) + 4 by omega] at KB
  have w4f : IntKind.i64.wrap (4 * (f : Int)) = 4 * (f : Int) := by rw [IntKind.wrap_i64]; omega
  have w4f' : IntKind.i64.wrap (4 * (f : Int) + 4) = 4 * (f : Int) + 4 := by rw [IntKind.wrap_i64]; omega
  have hV4 : V ≤ 4 := by have := hp.v4; omega
  clear hsa hsb hGA hTO hSF hp hx
  obtain ⟨S, hS⟩ : ∃ S, S = slotsB L P R K := ⟨_, rfl⟩
  obtain ⟨C, hC⟩ : ∃ C, C = cmpC P R K L := ⟨_, rfl⟩
  obtain ⟨T, hTe⟩ : ∃ T, T = encT (cmpR P R V K L) := ⟨_, rfl⟩
  have HSE := hide hS
  have HCE := hide hC
  have HTE := hide hTe
  rw [← hS, ← hC, ← hTe] at KB
  rw [← hS, ← hC, ← hTe]
  clear hS hC hTe
  go_wp2_with fail
  refine (unhide KP n 25000 _ hn (by decide)).mono ?_
  rintro _ w8 ⟨rfl, hw8⟩
  rw [hw8, ← unhide HFE]
  clear hw8
  have q0 := (unhide HLP7).prog.c0
  have q1 := (unhide HLP7).prog.c1
  have q2 := (unhide HLP7).prog.c2
  have q3 := (unhide HLP7).prog.c3
  go_wp2_with fail
  refine (unhide KA w7 (unhide HLP7)).mono ?_
  rintro _ w8 hpost
  obtain ⟨o1, c1, o2, c2, rfl, w9, hw9, HA9, HB9, hz8⟩ := after_run hpost
  have HW9 := hide hw9
  have HLP9 := hide ((unhide HLP7).below (unhide HB9))
  have HLU9 := hide ((unhide HLU7).below (unhide HB9))
  have HL9 : Hid (Below w.heap.size w w9) := (unhide HL7).trans ((unhide HB9).mono (unhide HL7).size)
  clear hw9 hpost q0 q1 q2 q3 HLP7 HLU7 HL7 HB9 KA
  go_upto_region 9 with fail
  rw [← unhide HW9]
  obtain ⟨u0, u1, u2, u3, u4, u5⟩ := labu_cells (unhide HLU9)
  rw [← unhide HSE] at u1
  rw [← unhide HCE] at u4
  rw [← unhide HTE] at u5
  go_wp2_with fail
  refine (unhide KB w9 (unhide HLP9) (unhide HLU9)).mono ?_
  rintro _ w10 hpost
  obtain ⟨o3, c3, o4, c4, rfl, w11, hw11, HB11, HL11', hz10⟩ := after_run hpost
  have HW11 := hide hw11
  have HLP11 := hide ((unhide HLP9).below (unhide HL11'))
  have HA11 := hide ((unhide HA9).below (unhide HL11'))
  have HL11 : Hid (Below w.heap.size w w11) := (unhide HL9).trans ((unhide HL11').mono (unhide HL9).size)
  clear hw11 hpost u0 u1 u2 u3 u4 u5 HLP9 HLU9 HL9 HA9 HL11' KB HW9
  go_upto_region 10 with fail
  rw [← unhide HW11]
  have a0 := (unhide HA11).c0
  have a1 := (unhide HA11).c1
  have a2 := (unhide HA11).c2
  have a3 := (unhide HA11).c3
  have a4 := (unhide HA11).c4
  have b0 := (unhide HB11).c0
  have b1 := (unhide HB11).c1
  have b2 := (unhide HB11).c2
  have b3 := (unhide HB11).c3
  have b4 := (unhide HB11).c4
  go_wp2_with fail
  refine (shown_any sa sb w7.heap.size w9.heap.size _ _ w11 (unhide HA11).res (unhide HB11).res (unhide HGA)).mono ?_
  rintro _ w13 ⟨rfl, hb13⟩
  have HLP13 := hide ((unhide HLP11).below hb13)
  have HA13 := hide ((unhide HA11).below hb13)
  have HB13 := hide ((unhide HB11).below hb13)
  have HL13 : Hid (Below w.heap.size w w13) := (unhide HL11).trans (hb13.mono (unhide HL11).size)
  clear hb13 a0 a1 a2 a3 a4 b0 b1 b2 b3 b4 HLP11 HL11 HA11 HB11 HGA HW11
  have a4 := (unhide HA13).c4
  have b4 := (unhide HB13).c4
  have q2 := (unhide HLP13).prog.c2
  obtain ⟨_, _, ea, hSA, hla⟩ := own_heldS (unhide HA13).stops
  obtain ⟨_, _, eb, hSB, hlb⟩ := own_heldS (unhide HB13).stops
  injection ea with ea1
  injection eb with eb1
  subst ea1 eb1
  unfold maxLen at hla hlb
  have HSA := hide hSA
  have HSB := hide hSB
  clear hSA hSB
  go_wp2_with fail
  go_loopw [17] (fun i' wr => ∃ j : Nat, j ≤ sa.stops.length ∧ i' = .int .i64 j ∧ wr = w13) (fun i' _ => sa.stops.length - (intOf i').toNat)
  case atStart => exact ⟨0, Nat.zero_le _, rfl, rfl⟩
  case round =>
    obtain ⟨j, hj, rfl, rfl⟩ := hrel
    by_cases j1 : j < sa.stops.length
    case neg =>
      have c : ¬ ((j : Int) < (sa.stops.length : Int)) := by omega
      go_wp2_with fail
      go_returns
      exact ⟨rfl, unhide HL13⟩
    by_cases j2 : j < sb.stops.length
    case neg =>
      have c : (j : Int) < (sa.stops.length : Int) := by omega
      have c' : ¬ ((j : Int) < (sb.stops.length : Int)) := by omega
      go_wp2_with fail
      go_returns
      exact ⟨rfl, unhide HL13⟩
    have c : (j : Int) < (sa.stops.length : Int) := by omega
    have c' : (j : Int) < (sb.stops.length : Int) := by omega
    have cj : (0 : Int) ≤ (j : Int) := by omega
    obtain ⟨ba, oa, rfl, hba, ga⟩ : ∃ b off, o2 = some ⟨b, off, none⟩ ∧ b < wr.heap.size ∧ ∀ i, i < sa.stops.length → SeenC wr b (off + i * 5) (snAt sa.stops i) := by
      rcases unhide HSA with h | h
      · rw [h] at j1; exact absurd j1 (Nat.not_lt_zero _)
      · exact h
    obtain ⟨bb, ob, rfl, hbb, gb⟩ : ∃ b off, o4 = some ⟨b, off, none⟩ ∧ b < wr.heap.size ∧ ∀ i, i < sb.stops.length → SeenC wr b (off + i * 5) (snAt sb.stops i) := by
      rcases unhide HSB with h | h
      · rw [h] at j2; exact absurd j2 (Nat.not_lt_zero _)
      · exact h
    have HGa := hide (ga j j1).2
    have HGb := hide (gb j j2).2
    have HTJ := hide (unhide HTO j j1 j2)
    clear ga gb
    go_wp2_with fail
    go_loopw [18] (fun i' wx => ∃ v : Nat, v ≤ 4 ∧ i' = .int .i64 v ∧ wx = wr) (fun i' _ => 4 - (intOf i').toNat)
    case atStart => exact ⟨0, Nat.zero_le _, rfl, rfl⟩
    case round =>
      obtain ⟨v, hv4, rfl, rfl⟩ := hrel
      by_cases v1 : v < 4
      case neg =>
        obtain rfl : v = 4 := by omega
        go_wp2_with fail
        go_roundw
        case rel => exact ⟨j + 1, by omega, by go_num, by first | rfl | trivial⟩
        case measure => simp [intOf]; omega
      have e1 := unhide HGb v v1
      have e2 := unhide HGa v v1
      obtain ⟨t1, t2⟩ := unhide HTJ v v1
      obtain ⟨x, hx⟩ : ∃ x, x = (snAt sb.stops j).v v := ⟨_, rfl⟩
      obtain ⟨y, hy⟩ : ∃ y, y = (snAt sa.stops j).v v := ⟨_, rfl⟩
      rw [← hx] at e1 t1
      rw [← hy] at e2 t1 t2
      have v2 : (v : Int) < 4 := by omega
      have v3 : (0 : Int) ≤ (v : Int) := by omega
      clear hx hy
      by_cases x1 : x = -1
      · subst x1
        by_cases vV : V ≤ v
        · have hy := t2 vV
          subst hy
          have vV' : (V : Int) ≤ (v : Int) := by omega
          clear t1 t2
          go_wp2_with fail
          go_roundw
          case rel => exact ⟨v + 1, by omega, by go_num, by first | rfl | trivial⟩
          case measure => simp [intOf]; omega
        · have vV' : ¬ ((V : Int) ≤ (v : Int)) := by omega
          clear t1 t2
          go_wp2_with fail
          go_roundw
          case rel => exact ⟨v + 1, by omega, by go_num, by first | rfl | trivial⟩
          case measure => simp [intOf]; omega
      · have hxy : x = y := t1.resolve_left x1
        subst hxy
        have x1' : (x != -1) = true := by rw [bne_iff_ne]; exact x1
        by_cases vV : V ≤ v
        · exact absurd (t2 vV) x1
        · have vV' : ¬ ((V : Int) ≤ (v : Int)) := by omega
          have HX1 := hide x1
          clear t1 t2 x1
          go_wp2_with fail
          go_roundw
          case rel => exact ⟨v + 1, by omega, by go_num, by first | rfl | trivial⟩
          case measure => simp [intOf]; omega
end Go.Proofs.YtoepcplbpochpaaDoor

/-
  What came in, opened: a program's code, a list of numbers; and the table that the program's text lays.
-/
namespace Go.Proofs.YtoepcplbpochpaaDoor
open Go.ChangeShapes Go.WideShapes Go.ChangeAt Go.RowKit Go.Deep

theorem Tryd.cells77 : Tryd.prog.cellsOf 77 = 4 := by kernel_rfl
theorem Tryd.cells3 : Tryd.prog.cellsOf 3 = 1 := by kernel_rfl
theorem Tryd.cells22 : Tryd.prog.cellsOf 22 = 1 := by kernel_rfl
theorem Tryd.cells24 : Tryd.prog.cellsOf 24 = 4 := by kernel_rfl
theorem Tryd.cells167 : Tryd.prog.cellsOf 167 = 3 := by kernel_rfl

set_option maxRecDepth 100000 in
theorem open_code {H : Type} {enc : TypeId × Value → H} {w : World} {base : Nat} {spare : Nat → Bool} {held : Bool} {fuel : Nat} {cs : List Value} {x : DataW H × List MemPlace}
    (h : DataW.trod enc Tryd.prog w base spare held fuel 22 cs = some x) :
    cs = [.slice none 0 0] ∨ ∃ (a : Addr) (len cap : Nat) (L : List In4) (elems rest : List (DataW H)), cs = [.slice (some a) len cap] ∧ L.length = len ∧ x.1 = .slice elems rest ∧ elems.length = len ∧ HeldIns w (some a) L := by
  rcases open_slice Tryd.underlying22 h with ⟨h0, _⟩ | ⟨a, len, cap, m, n, D, Pl, rfl, hb, hl, hm, hmm, rfl, hx⟩
  · exact .inl h0
  right
  have hlm : len ≤ m := by rw [hmm]; split <;> omega
  have each : ∀ i, i < len → ∃ r : In4, w.cell? (a.add (i * 4)) = some (.int .i64 r.op) ∧ w.cell? (a.add (i * 4 + 1)) = some (.int .i64 r.d) ∧ w.cell? (a.add (i * 4 + 2)) = some (.int .i64 r.a) ∧ w.cell? (a.add (i * 4 + 3)) = some (.int .i64 r.b) := by
    intro i hi
    obtain ⟨cs', h1, h2⟩ := hx i (by omega)
    rw [Tryd.cells77] at h1
    obtain ⟨_, hlen, hcell⟩ := World.cells?_some h1
    obtain ⟨xs, k, hk, hxy, _, hxl, hf⟩ := DataW.trod_struct Tryd.underlying77 h2
    match xs, hxl, cs', hlen with
    | [y0, y1, y2, y3], _, [v0, v1, v2, v3], _ =>
      have g0 := hf 0 _ rfl
      have g1 := hf 1 _ rfl
      have g2 := hf 2 _ rfl
      have g3 := hf 3 _ rfl
      simp [Tryd.cells3] at g0 g1 g2 g3
      obtain ⟨z0, e0, _, _⟩ := DataW.trod_int Tryd.underlying3 g0
      obtain ⟨z1, e1, _, _⟩ := DataW.trod_int Tryd.underlying3 g1
      obtain ⟨z2, e2, _, _⟩ := DataW.trod_int Tryd.underlying3 g2
      obtain ⟨z3, e3, _, _⟩ := DataW.trod_int Tryd.underlying3 g3
      simp only [List.cons.injEq, and_true] at e0 e1 e2 e3
      subst e0 e1 e2 e3
      have c0 := hcell 0 (by omega)
      have c1 := hcell 1 (by omega)
      have c2 := hcell 2 (by omega)
      have c3 := hcell 3 (by omega)
      rw [add_add] at c0 c1 c2 c3
      exact ⟨⟨z0, z1, z2, z3⟩, by simpa using c0, by simpa using c1, by simpa using c2, by simpa using c3⟩
  have inh : Inhabited In4 := ⟨⟨0, 0, 0, 0⟩⟩
  obtain ⟨q, hq⟩ := choose_lt each
  have e : ∀ i, i < len → inAt ((List.range len).map q) i = q i := fun i hi => by unfold inAt; simp [hi]
  refine ⟨a, len, cap, (List.range len).map q, _, _, rfl, by simp, rfl, by simp, ?_⟩
  by_cases h0 : len = 0
  · exact .inl (by rw [h0]; rfl)
  obtain ⟨b, off, spot⟩ := a
  have hc := (hq 0 (by omega)).1
  have hspot : spot = none := by simpa [Addr.add] using World.cell?_spot hc
  subst hspot
  have hadd : ∀ j, (⟨b, off, none⟩ : Addr).add j = ⟨b, off + j, none⟩ := fun j => by unfold Addr.add; split <;> simp_all
  refine .inr ⟨b, off, rfl, ?_, fun i hi => ?_⟩
  · rw [hadd] at hc; exact World.block_lt_of_cell? w _ hc
  · rw [List.length_map, List.length_range] at hi
    obtain ⟨k0, k1, k2, k3⟩ := hq i hi
    rw [hadd] at k0 k1 k2 k3
    rw [e i hi]
    exact ⟨k0, k1, k2, k3⟩

set_option maxRecDepth 100000 in
theorem open_nums {H : Type} {enc : TypeId × Value → H} {w : World} {base : Nat} {spare : Nat → Bool} {held : Bool} {fuel : Nat} {cs : List Value} {x : DataW H × List MemPlace}
    (h : DataW.trod enc Tryd.prog w base spare held fuel 32 cs = some x) :
    cs = [.slice none 0 0] ∨ ∃ (a : Addr) (len cap : Nat) (L : List Int) (elems rest : List (DataW H)), cs = [.slice (some a) len cap] ∧ L.length = len ∧ x.1 = .slice elems rest ∧ elems.length = len ∧ HeldI w (some a) L := by
  rcases open_slice Tryd.underlying32 h with ⟨h0, _⟩ | ⟨a, len, cap, m, n, D, Pl, rfl, hb, hl, hm, hmm, rfl, hx⟩
  · exact .inl h0
  right
  have hlm : len ≤ m := by rw [hmm]; split <;> omega
  have each : ∀ i, i < len → ∃ r : Int, w.cell? (a.add i) = some (.int .i64 r) := by
    intro i hi
    obtain ⟨cs', h1, h2⟩ := hx i (by omega)
    rw [Tryd.cells3] at h1
    obtain ⟨_, hlen, hcell⟩ := World.cells?_some h1
    match cs', hlen with
    | [v0], _ =>
      obtain ⟨z0, e0, _, _⟩ := DataW.trod_int Tryd.underlying3 h2
      simp only [List.cons.injEq, and_true] at e0
      subst e0
      have c0 := hcell 0 (by omega)
      rw [add_add] at c0
      exact ⟨z0, by simpa using c0⟩
  have inh : Inhabited Int := ⟨0⟩
  obtain ⟨q, hq⟩ := choose_lt each
  have e : ∀ i, i < len → nth ((List.range len).map q) i = q i := fun i hi => by unfold nth; simp [hi]
  refine ⟨a, len, cap, (List.range len).map q, _, _, rfl, by simp, rfl, by simp, ?_⟩
  by_cases h0 : len = 0
  · exact .inl (by rw [h0]; rfl)
  obtain ⟨b, off, spot⟩ := a
  have hc := hq 0 (by omega)
  have hspot : spot = none := by simpa [Addr.add] using World.cell?_spot hc
  subst hspot
  have hadd : ∀ j, (⟨b, off, none⟩ : Addr).add j = ⟨b, off + j, none⟩ := fun j => by unfold Addr.add; split <;> simp_all
  refine .inr ⟨b, off, rfl, ?_, fun i hi => ?_⟩
  · rw [hadd] at hc; exact World.block_lt_of_cell? w _ hc
  · rw [List.length_map, List.length_range] at hi
    have k0 := hq i hi
    rw [hadd] at k0
    rw [e i hi]
    exact k0

set_option maxRecDepth 100000 in
theorem open_prog {H : Type} {enc : TypeId × Value → H} {w : World} {base : Nat} {spare : Nat → Bool} {held : Bool} {fuel : Nat} {cl : List Value} {x : DataW H × List MemPlace}
    (h : DataW.trod enc Tryd.prog w base spare held fuel 24 cl = some x) :
    ∃ (P R V : Int) (ac : Option Addr) (L : List In4) (cc : Nat), cl = [.int .i64 P, .int .i64 R, .int .i64 V, .slice ac L.length cc] ∧ HeldIns w ac L ∧ (L = [] ∨ ∃ y0 y1 y2 elems rest, x.1 = .agg [y0, y1, y2, .slice elems rest] ∧ elems.length = L.length) := by
  obtain ⟨xs, n, _, hxy, hl, hxl, hf⟩ := DataW.trod_struct Tryd.underlying24 h
  rw [Tryd.cells24] at hl
  match xs, hxl, cl, hl with
  | [y0, y1, y2, y3], _, [c0, c1, c2, c3], _ =>
    have g0 := hf 0 _ rfl
    have g1 := hf 1 _ rfl
    have g2 := hf 2 _ rfl
    have g3 := hf 3 _ rfl
    simp [Tryd.cells3, Tryd.cells22] at g0 g1 g2 g3
    obtain ⟨z0, e0, _, _⟩ := DataW.trod_int Tryd.underlying3 g0
    obtain ⟨z1, e1, _, _⟩ := DataW.trod_int Tryd.underlying3 g1
    obtain ⟨z2, e2, _, _⟩ := DataW.trod_int Tryd.underlying3 g2
    simp only [List.cons.injEq, and_true] at e0 e1 e2
    subst e0 e1 e2
    rcases open_code g3 with hc | ⟨a, l, c, L, elems, rest, hc, hR, hx, he, hh⟩
    · simp only [List.cons.injEq, and_true] at hc
      subst hc
      exact ⟨z0, z1, z2, none, [], 0, rfl, .inl rfl, .inl rfl⟩
    · simp only [List.cons.injEq, and_true] at hc
      subst hc
      refine ⟨z0, z1, z2, some a, L, c, by rw [hR], hh, .inr ⟨y0.1, y1.1, y2.1, elems, rest, ?_, by rw [he, hR]⟩⟩
      rw [hxy, ← hx]
      rfl
theorem sized_prog {H : Type} {ts : List TypeId} {ds : List (DataW H)} {y0 y1 y2 : DataW H} {elems rest : List (DataW H)} (h : (DataW.weightsEach Tryd.prog ts ds).all (· ≤ reachBytes) = true) (ht : ts[0]? = some 24) (hd : ds[0]? = some (.agg [y0, y1, y2, .slice elems rest])) : elems.length * 32 ≤ 140737488351232 := by
  have hm : (elems.length + rest.length) * Tryd.prog.bytesOf 77 ∈ (DataW.agg [y0, y1, y2, .slice elems rest] : DataW H).weights Tryd.prog 24 := by
    simp [DataW.weights, Tryd.underlying24, DataW.weightsEach, Tryd.underlying22]
  have := List.all_eq_true.1 h _ (DataW.weights_mem_each ht hd _ hm)
  rw [show Tryd.prog.bytesOf 77 = 32 by kernel_rfl] at this
  unfold reachBytes at this
  simp at this
  omega

theorem Tryd.cells9 : Tryd.prog.cellsOf 9 = 1 := by kernel_rfl
theorem Tryd.cells26 : Tryd.prog.cellsOf 26 = 6 := by kernel_rfl
set_option maxRecDepth 100000 in
theorem open_unit {H : Type} {enc : TypeId × Value → H} {w : World} {base : Nat} {spare : Nat → Bool} {held : Bool} {fuel : Nat} {cl : List Value} {x : DataW H × List MemPlace}
    (h : DataW.trod enc Tryd.prog w base spare held fuel 26 cl = some x) :
    ∃ (K S P V : Int) (ac : Option Addr) (L : List In4) (cc : Nat) (T : ByteArray), cl = [.int .i64 K, .int .i64 S, .int .i64 P, .int .i64 V, .slice ac L.length cc, .string T] ∧ HeldIns w ac L ∧ T.size ≤ maxLen ∧ (L = [] ∨ ∃ y0 y1 y2 y3 elems rest y5, x.1 = .agg [y0, y1, y2, y3, .slice elems rest, y5] ∧ elems.length = L.length) := by
  obtain ⟨xs, n, _, hxy, hl, hxl, hf⟩ := DataW.trod_struct Tryd.underlying26 h
  rw [Tryd.cells26] at hl
  match xs, hxl, cl, hl with
  | [y0, y1, y2, y3, y4, y5], _, [c0, c1, c2, c3, c4, c5], _ =>
    have g0 := hf 0 _ rfl
    have g1 := hf 1 _ rfl
    have g2 := hf 2 _ rfl
    have g3 := hf 3 _ rfl
    have g4 := hf 4 _ rfl
    have g5 := hf 5 _ rfl
    simp [Tryd.cells3, Tryd.cells22, Tryd.cells9] at g0 g1 g2 g3 g4 g5
    obtain ⟨z0, e0, _, _⟩ := DataW.trod_int Tryd.underlying3 g0
    obtain ⟨z1, e1, _, _⟩ := DataW.trod_int Tryd.underlying3 g1
    obtain ⟨z2, e2, _, _⟩ := DataW.trod_int Tryd.underlying3 g2
    obtain ⟨z3, e3, _, _⟩ := DataW.trod_int Tryd.underlying3 g3
    obtain ⟨T, e5, _, hT⟩ := DataW.trod_string Tryd.underlying9 g5
    simp only [List.cons.injEq, and_true] at e0 e1 e2 e3 e5
    subst e0 e1 e2 e3 e5
    rcases open_code g4 with hc | ⟨a, l, c, L, elems, rest, hc, hR, hx, he, hh⟩
    · simp only [List.cons.injEq, and_true] at hc
      subst hc
      exact ⟨z0, z1, z2, z3, none, [], 0, T, rfl, .inl rfl, hT, .inl rfl⟩
    · simp only [List.cons.injEq, and_true] at hc
      subst hc
      refine ⟨z0, z1, z2, z3, some a, L, c, T, by rw [hR], hh, hT, .inr ⟨y0.1, y1.1, y2.1, y3.1, elems, rest, y5.1, ?_, by rw [he, hR]⟩⟩
      rw [hxy, ← hx]
      rfl
theorem sized_unit {H : Type} {ts : List TypeId} {ds : List (DataW H)} {y0 y1 y2 y3 y5 : DataW H} {elems rest : List (DataW H)} {j : Nat} (h : (DataW.weightsEach Tryd.prog ts ds).all (· ≤ reachBytes) = true) (ht : ts[j]? = some 26) (hd : ds[j]? = some (.agg [y0, y1, y2, y3, .slice elems rest, y5])) : elems.length * 32 ≤ 140737488351232 := by
  have hm : (elems.length + rest.length) * Tryd.prog.bytesOf 77 ∈ (DataW.agg [y0, y1, y2, y3, .slice elems rest, y5] : DataW H).weights Tryd.prog 26 := by
    simp [DataW.weights, Tryd.underlying26, DataW.weightsEach, Tryd.underlying22]
  have := List.all_eq_true.1 h _ (DataW.weights_mem_each ht hd _ hm)
  rw [show Tryd.prog.bytesOf 77 = 32 by kernel_rfl] at this
  unfold reachBytes at this
  simp at this
  omega

theorem gKinds : Tryd.prog.globalNamed "lodge/code.kinds" = some 0 := by kernel_rfl
theorem tKinds : (Tryd.prog.globals[0]?).map (·.type) = some 168 := by kernel_rfl
theorem laid_kinds {H : Type} : (Rows.laid_lodge_code_kinds : DataW H) = .agg (kindL.map fun r => .agg (r.map fun k => .lit (.int .i64 k))) := rfl
theorem kind_row (o j : Nat) (ho : o < 17) (hj : j < 3) : ∃ r, kindL[o]? = some r ∧ r[j]? = some (kindAt o j) := by
  rcases (show o = 0 ∨ o = 1 ∨ o = 2 ∨ o = 3 ∨ o = 4 ∨ o = 5 ∨ o = 6 ∨ o = 7 ∨ o = 8 ∨ o = 9 ∨ o = 10 ∨ o = 11 ∨ o = 12 ∨ o = 13 ∨ o = 14 ∨ o = 15 ∨ o = 16 by omega) with rfl | rfl | rfl | rfl | rfl | rfl | rfl | rfl | rfl | rfl | rfl | rfl | rfl | rfl | rfl | rfl | rfl
  all_goals
    rcases (show j = 0 ∨ j = 1 ∨ j = 2 by omega) with rfl | rfl | rfl <;> exact ⟨_, rfl, rfl⟩

/-- What the condition on the table gives the walks. -/
theorem of_laid {W : World} (h : laidMetH Tryd.prog [("lodge/code.kinds", Rows.laid_lodge_code_kinds)] W) : Tab W := by
  rw [MakeChecks.laidMetH_plain _ _ _ (by kernel_rfl)] at h
  obtain ⟨ps, ⟨g0, t0, cs, f0, p0, q0, hg0, ht0, hv0, hd0, _, _⟩, _⟩ := h
  obtain rfl := Option.some.inj (gKinds.symm.trans hg0)
  obtain rfl := Option.some.inj (tKinds.symm.trans ht0)
  obtain ⟨xs, m, rfl, hx, hlen, hn, hel⟩ := DataW.trod_array Tryd.underlying168 hd0
  simp only [Prod.mk.injEq] at hx
  rw [laid_kinds, DataW.agg.injEq] at hx
  intro o j ho hj
  obtain ⟨r, hr, hrj⟩ := kind_row o j ho hj
  have h1 := hel o ho
  obtain ⟨x, hxo⟩ : ∃ x, xs[o]? = some x := ⟨xs[o]'(by omega), List.getElem?_eq_getElem _⟩
  rw [hxo] at h1
  have hd1 : x.1 = .agg (r.map fun k => .lit (.int .i64 k)) := by
    have e := congrArg (fun l : List (DataW _) => l[o]?) hx.1
    simp only [List.getElem?_map, hr, hxo, Option.map_some, Option.some.injEq] at e
    exact e.symm
  obtain ⟨ys, m', rfl, hy, hly, hny, hel'⟩ := DataW.trod_array Tryd.underlying167 h1
  have h2 := hel' j hj
  obtain ⟨y, hyj⟩ : ∃ y, ys[j]? = some y := ⟨ys[j]'(by omega), List.getElem?_eq_getElem _⟩
  rw [hyj] at h2
  have hd2 : y.1 = .lit (.int .i64 (kindAt o j)) := by
    rw [hy] at hd1
    simp only [DataW.agg.injEq] at hd1
    have e := congrArg (fun l : List (DataW _) => l[j]?) hd1
    simp only [List.getElem?_map, hrj, hyj, Option.map_some, Option.some.injEq] at e
    exact e
  obtain ⟨k, e1, e2, _⟩ := DataW.trod_int Tryd.underlying3 h2
  have hk : k = kindAt o j := by rw [e2] at hd2; simpa using hd2
  subst hk
  have hcell := World.var?_cell hg0 hv0 (o * 3 + j)
  rw [hcell]
  rw [Tryd.cells167, Tryd.cells3] at e1
  have e3 := congrArg (fun l : List Value => l[0]?) e1
  simp only [Nat.mul_one, List.getElem?_take, List.getElem?_drop, Nat.add_zero, List.getElem?_cons_zero] at e3
  rw [if_pos (by omega), if_pos hj, Array.getElem?_toList] at e3
  exact e3
end Go.Proofs.YtoepcplbpochpaaDoor

/-
  What came in, opened, with the bounds of its numbers.
-/
namespace Go.Proofs.YtoepcplbpochpaaDoor
open Go.ChangeShapes Go.WideShapes Go.ChangeAt Go.RowKit Go.Deep

set_option maxRecDepth 100000 in
theorem open_codeR {H : Type} {enc : TypeId × Value → H} {w : World} {base : Nat} {spare : Nat → Bool} {held : Bool} {fuel : Nat} {cs : List Value} {x : DataW H × List MemPlace}
    (h : DataW.trod enc Tryd.prog w base spare held fuel 22 cs = some x) :
    cs = [.slice none 0 0] ∨ ∃ (a : Addr) (len cap : Nat) (L : List In4) (elems rest : List (DataW H)), cs = [.slice (some a) len cap] ∧ L.length = len ∧ x.1 = .slice elems rest ∧ elems.length = len ∧ HeldIns w (some a) L ∧ RngI L ∧ len ≤ cap := by
  rcases open_slice Tryd.underlying22 h with ⟨h0, _⟩ | ⟨a, len, cap, m, n, D, Pl, rfl, hb, hl, hm, hmm, rfl, hx⟩
  · exact .inl h0
  right
  have hlm : len ≤ m := by rw [hmm]; split <;> omega
  have each : ∀ i, i < len → ∃ r : In4, w.cell? (a.add (i * 4)) = some (.int .i64 r.op) ∧ w.cell? (a.add (i * 4 + 1)) = some (.int .i64 r.d) ∧ w.cell? (a.add (i * 4 + 2)) = some (.int .i64 r.a) ∧ w.cell? (a.add (i * 4 + 3)) = some (.int .i64 r.b) ∧ Rng r.op ∧ Rng r.d ∧ Rng r.a ∧ Rng r.b := by
    intro i hi
    obtain ⟨cs', h1, h2⟩ := hx i (by omega)
    rw [Tryd.cells77] at h1
    obtain ⟨_, hlen, hcell⟩ := World.cells?_some h1
    obtain ⟨xs, k, hk, hxy, _, hxl, hf⟩ := DataW.trod_struct Tryd.underlying77 h2
    match xs, hxl, cs', hlen with
    | [y0, y1, y2, y3], _, [v0, v1, v2, v3], _ =>
      have g0 := hf 0 _ rfl
      have g1 := hf 1 _ rfl
      have g2 := hf 2 _ rfl
      have g3 := hf 3 _ rfl
      simp [Tryd.cells3] at g0 g1 g2 g3
      obtain ⟨z0, e0, _, f0⟩ := DataW.trod_int Tryd.underlying3 g0
      obtain ⟨z1, e1, _, f1⟩ := DataW.trod_int Tryd.underlying3 g1
      obtain ⟨z2, e2, _, f2⟩ := DataW.trod_int Tryd.underlying3 g2
      obtain ⟨z3, e3, _, f3⟩ := DataW.trod_int Tryd.underlying3 g3
      simp only [List.cons.injEq, and_true] at e0 e1 e2 e3
      subst e0 e1 e2 e3
      have c0 := hcell 0 (by omega)
      have c1 := hcell 1 (by omega)
      have c2 := hcell 2 (by omega)
      have c3 := hcell 3 (by omega)
      rw [add_add] at c0 c1 c2 c3
      exact ⟨⟨z0, z1, z2, z3⟩, by simpa using c0, by simpa using c1, by simpa using c2, by simpa using c3, bounds_i64 f0, bounds_i64 f1, bounds_i64 f2, bounds_i64 f3⟩
  have inh : Inhabited In4 := ⟨⟨0, 0, 0, 0⟩⟩
  obtain ⟨q, hq⟩ := choose_lt each
  have e : ∀ i, i < len → inAt ((List.range len).map q) i = q i := fun i hi => by unfold inAt; simp [hi]
  refine ⟨a, len, cap, (List.range len).map q, _, _, rfl, by simp, rfl, by simp, ?_, fun i hi => ?_, hl⟩
  case refine_2 =>
    rw [List.length_map, List.length_range] at hi
    rw [e i hi]
    obtain ⟨_, _, _, _, g0, g1, g2, g3⟩ := hq i hi
    exact ⟨g0, g1, g2, g3⟩
  by_cases h0 : len = 0
  · exact .inl (by rw [h0]; rfl)
  obtain ⟨b, off, spot⟩ := a
  have hc := (hq 0 (by omega)).1
  have hspot : spot = none := by simpa [Addr.add] using World.cell?_spot hc
  subst hspot
  have hadd : ∀ j, (⟨b, off, none⟩ : Addr).add j = ⟨b, off + j, none⟩ := fun j => by unfold Addr.add; split <;> simp_all
  refine .inr ⟨b, off, rfl, ?_, fun i hi => ?_⟩
  · rw [hadd] at hc; exact World.block_lt_of_cell? w _ hc
  · rw [List.length_map, List.length_range] at hi
    obtain ⟨k0, k1, k2, k3, _⟩ := hq i hi
    rw [hadd] at k0 k1 k2 k3
    rw [e i hi]
    exact ⟨k0, k1, k2, k3⟩

set_option maxRecDepth 100000 in
theorem open_numsR {H : Type} {enc : TypeId × Value → H} {w : World} {base : Nat} {spare : Nat → Bool} {held : Bool} {fuel : Nat} {cs : List Value} {x : DataW H × List MemPlace}
    (h : DataW.trod enc Tryd.prog w base spare held fuel 32 cs = some x) :
    cs = [.slice none 0 0] ∨ ∃ (a : Addr) (len cap : Nat) (L : List Int) (elems rest : List (DataW H)), cs = [.slice (some a) len cap] ∧ L.length = len ∧ x.1 = .slice elems rest ∧ elems.length = len ∧ HeldI w (some a) L ∧ (∀ i, i < L.length → Rng (nth L i)) := by
  rcases open_slice Tryd.underlying32 h with ⟨h0, _⟩ | ⟨a, len, cap, m, n, D, Pl, rfl, hb, hl, hm, hmm, rfl, hx⟩
  · exact .inl h0
  right
  have hlm : len ≤ m := by rw [hmm]; split <;> omega
  have each : ∀ i, i < len → ∃ r : Int, w.cell? (a.add i) = some (.int .i64 r) ∧ Rng r := by
    intro i hi
    obtain ⟨cs', h1, h2⟩ := hx i (by omega)
    rw [Tryd.cells3] at h1
    obtain ⟨_, hlen, hcell⟩ := World.cells?_some h1
    match cs', hlen with
    | [v0], _ =>
      obtain ⟨z0, e0, _, f0⟩ := DataW.trod_int Tryd.underlying3 h2
      simp only [List.cons.injEq, and_true] at e0
      subst e0
      have c0 := hcell 0 (by omega)
      rw [add_add] at c0
      exact ⟨z0, by simpa using c0, bounds_i64 f0⟩
  have inh : Inhabited Int := ⟨0⟩
  obtain ⟨q, hq⟩ := choose_lt each
  have e : ∀ i, i < len → nth ((List.range len).map q) i = q i := fun i hi => by unfold nth; simp [hi]
  refine ⟨a, len, cap, (List.range len).map q, _, _, rfl, by simp, rfl, by simp, ?_, fun i hi => ?_⟩
  case refine_2 =>
    rw [List.length_map, List.length_range] at hi
    rw [e i hi]
    exact (hq i hi).2
  by_cases h0 : len = 0
  · exact .inl (by rw [h0]; rfl)
  obtain ⟨b, off, spot⟩ := a
  have hc := (hq 0 (by omega)).1
  have hspot : spot = none := by simpa [Addr.add] using World.cell?_spot hc
  subst hspot
  have hadd : ∀ j, (⟨b, off, none⟩ : Addr).add j = ⟨b, off + j, none⟩ := fun j => by unfold Addr.add; split <;> simp_all
  refine .inr ⟨b, off, rfl, ?_, fun i hi => ?_⟩
  · rw [hadd] at hc; exact World.block_lt_of_cell? w _ hc
  · rw [List.length_map, List.length_range] at hi
    have k0 := (hq i hi).1
    rw [hadd] at k0
    rw [e i hi]
    exact k0

set_option maxRecDepth 100000 in
theorem open_progR {H : Type} {enc : TypeId × Value → H} {w : World} {base : Nat} {spare : Nat → Bool} {held : Bool} {fuel : Nat} {cl : List Value} {x : DataW H × List MemPlace}
    (h : DataW.trod enc Tryd.prog w base spare held fuel 24 cl = some x) :
    ∃ (P R V : Int) (ac : Option Addr) (L : List In4) (cc : Nat), cl = [.int .i64 P, .int .i64 R, .int .i64 V, .slice ac L.length cc] ∧ HeldIns w ac L ∧ RngI L ∧ Rng P ∧ Rng R ∧ Rng V ∧ L.length ≤ cc ∧ (L = [] ∨ ∃ y0 y1 y2 elems rest, x.1 = .agg [y0, y1, y2, .slice elems rest] ∧ elems.length = L.length) := by
  obtain ⟨xs, n, _, hxy, hl, hxl, hf⟩ := DataW.trod_struct Tryd.underlying24 h
  rw [Tryd.cells24] at hl
  match xs, hxl, cl, hl with
  | [y0, y1, y2, y3], _, [c0, c1, c2, c3], _ =>
    have g0 := hf 0 _ rfl
    have g1 := hf 1 _ rfl
    have g2 := hf 2 _ rfl
    have g3 := hf 3 _ rfl
    simp [Tryd.cells3, Tryd.cells22] at g0 g1 g2 g3
    obtain ⟨z0, e0, _, f0⟩ := DataW.trod_int Tryd.underlying3 g0
    obtain ⟨z1, e1, _, f1⟩ := DataW.trod_int Tryd.underlying3 g1
    obtain ⟨z2, e2, _, f2⟩ := DataW.trod_int Tryd.underlying3 g2
    simp only [List.cons.injEq, and_true] at e0 e1 e2
    subst e0 e1 e2
    rcases open_codeR g3 with hc | ⟨a, l, c, L, elems, rest, hc, hR, hx, he, hh, hr, hlc⟩
    · simp only [List.cons.injEq, and_true] at hc
      subst hc
      exact ⟨z0, z1, z2, none, [], 0, rfl, .inl rfl, fun i hi => absurd hi (Nat.not_lt_zero _), bounds_i64 f0, bounds_i64 f1, bounds_i64 f2, Nat.le_refl _, .inl rfl⟩
    · simp only [List.cons.injEq, and_true] at hc
      subst hc
      refine ⟨z0, z1, z2, some a, L, c, by rw [hR], hh, hr, bounds_i64 f0, bounds_i64 f1, bounds_i64 f2, by rw [hR]; exact hlc, .inr ⟨y0.1, y1.1, y2.1, elems, rest, ?_, by rw [he, hR]⟩⟩
      rw [hxy, ← hx]
      rfl
end Go.Proofs.YtoepcplbpochpaaDoor
