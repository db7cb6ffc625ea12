/-
  PROVED: for every program, machine, raw args and fuel, the call lodgelaw.Told(p, k, raw, n) of the landed program returns true (Compile answers the document's error, with the zero unit, or a unit that is right by the document; and by the document's own runs of both, at each Stop what the unit tells of a variable is what the program has there, or nothing, and it is told wherever the document's own search along ways says that it must be), and its arguments read afterwards as before. Conditions: the package-level table of the kinds of fields reads as the program's text lays it (tied).
-/
import Derived.Test.YtoepcplbpochpaaDoorPiece29
import Derived.Test.YtoepcplbpochpaaDoorPiece31
import Derived.Test.YtoepcplbpochpaaDoorPiece33
import Derived.Test.YtoepcplbpochpaaDoorPiece34
import Derived.Test.YtoepcplbpochpaaDoorCards
import Derived.Test.YtoepcplbpochpaaDoorTie
import Derived.WalkKit
import Derived.ProofKit
import Derived.LaidMore
import Derived.OpenShut
import Derived.ChangeOld
import Derived.Below
import Derived.SizedLaws
import Derived.Stop.Joined
import Derived.SevenTiedAt

namespace Go.Proofs.YtoepcplbpochpaaDoor.told
open Go.ChangeShapes Go.WideShapes Go.ChangeAt Go.WideMaps Go.WideElems Go.RowKit

theorem own : ownKnob Tryd.prog.godebug = none := by kernel_rfl
theorem laidOut : laidOutB Tryd.prog = true := by kernel_rfl
theorem bytes3 : Tryd.prog.bytesOf 3 = 8 := by kernel_rfl

/-- The door's own heap meets the condition. -/
theorem door_met (os : Os) (args : Array Value) : laidMetH Tryd.prog [("lodge/code.kinds", Rows.laid_lodge_code_kinds)] ((World.doorLaid Tryd.prog 31 os).forCall (fun _ _ => 0) ⟨#[], args, []⟩).memory :=
  laidMetH_of_parts3 (fuel := 8) (laidMet_of_run' 8 (by kernel_rfl) (by kernel_rfl)) (by kernel_rfl) (by kernel_rfl)

set_option maxRecDepth 100000 in
set_option maxHeartbeats 4000000 in
theorem lifted (os : Os) (started : os.Started) (H : Type) (enc : TypeId × Value → H) :
    ReturnsInHanded {} Tryd.checked os 8 .any (fun w args => (Rows.toldSpec.pre enc Tryd.prog Tryd.f8 [] false w args ∧ laidMetH Tryd.prog [("lodge/code.kinds", Rows.laid_lodge_code_kinds)] w) ∧ sizedMet enc Tryd.prog Tryd.f8 (OpenSpec.ofChange Rows.toldSpec) false w args)
      (Rows.toldSpec.post enc Tryd.prog Tryd.f8 false true false false) := by
  refine returnsInHanded_of_change_and (C := Tryd.checked) (X := fun w _ => laidMetH Tryd.prog [("lodge/code.kinds", Rows.laid_lodge_code_kinds)] w) (fun _ _ _ hh h => h.of_heap hh) own started (by kernel_rfl) Tryd.func8
    (ChangeSpec.witness_shaped (enc := enc) (C := Tryd.checked) (os := os) (X := fun w _ => laidMetH Tryd.prog [("lodge/code.kinds", Rows.laid_lodge_code_kinds)] w) false (World.doorLaid Tryd.prog 31 os) #[.agg #[.int .i64 0, .int .i64 0, .int .i64 0, .slice none 0 0], .int .i64 0, .slice none 0 0, .int .i64 0] 8 rfl (World.shaped_of_RefB (by kernel_rfl) (by kernel_rfl)) (by kernel_rfl) (by kernel_rfl) (by kernel_rfl) (door_met os _)) ?_
  intro W base args ds gs before hval0 hW hcnd hsz0 hL _
  have hsz : (DataW.weightsEach Tryd.prog (Tryd.f8.params.toList ++ Rows.toldSpec.plain.varTypes Tryd.prog) (ds ++ gs)).all (· ≤ reachBytes) = true := hsz0
  have hval : ∀ (j : Nat) t v, Tryd.f8.params[j]? = some t → args[j]? = some v → Value.okWide Tryd.prog W .any base t v := hval0
  have hW' := hW
  obtain ⟨p, q, hA0, hV, rfl, hfz, hnd⟩ := hW
  have hA : DataW.TrodAll enc Tryd.prog W 0 (fun _ => true) true Tryd.f8.params.toList args.toList ds p := hA0
  rw [Tryd.params8] at hA hval hsz
  obtain ⟨v0, vs0, d0, ds0, p0, q0, hargs, rfl, rfl, h0, r0⟩ := trodAll_cons hA
  obtain ⟨v1, vs1, d1, ds1, p1, q1, rfl, rfl, rfl, h1, r1⟩ := trodAll_cons r0
  obtain ⟨v2, vs2, d2, ds2, p2, q2, rfl, rfl, rfl, h2, r2⟩ := trodAll_cons r1
  obtain ⟨v3, vs3, d3, ds3, p3, q3, rfl, rfl, rfl, h3, r3⟩ := trodAll_cons r2
  obtain ⟨rfl, rfl, rfl⟩ := trodAll_nil r3
  obtain rfl : args = #[v0, v1, v2, v3] := by cases args; simp_all
  obtain ⟨rfl, rfl⟩ := trodVars_none hV
  have hT := of_laid hL
  have k0 := h0
  have k2 := h2
  have lt0 : ∀ x ∈ p0, x.block < W.heap.size := by obtain ⟨m, hm⟩ := k0; exact DataW.trod_lt m _ _ _ hm
  have lt2 : ∀ x ∈ p2, x.block < W.heap.size := by obtain ⟨m, hm⟩ := k2; exact DataW.trod_lt m _ _ _ hm
  obtain ⟨cu, rfl, hcu⟩ := okWide_struct Tryd.underlying24 (hval 0 24 v0 rfl rfl)
  obtain ⟨P0, R0, V0, ac, L0, cc, rfl, hH, hv, hP0, hR0, hV0, hcc, hlen⟩ : ∃ (P0 R0 V0 : Int) (ac : Option Addr) (L0 : List In4) (cc : Nat), cu = #[.int .i64 P0, .int .i64 R0, .int .i64 V0, .slice ac L0.length cc] ∧ HeldIns W ac L0 ∧ RngI L0 ∧ Rng P0 ∧ Rng R0 ∧ Rng V0 ∧ L0.length ≤ cc ∧ L0.length * 32 ≤ 140737488351232 := by
    obtain ⟨fuel, hf0⟩ := h0
    have hf1 : DataW.trod enc Tryd.prog W 0 (fun _ => true) true fuel 24 cu.toList = some (d0, p0) := hf0
    obtain ⟨P0, R0, V0, ac, L0, cc, hcl, hh, g1, g2, g3, g4, g5, hor⟩ := open_progR hf1
    refine ⟨P0, R0, V0, ac, L0, cc, Array.toList_inj.1 hcl, hh, g1, g2, g3, g4, g5, ?_⟩
    rcases hor with rfl | ⟨y0, y1, y2, elems, rest, hx, he⟩
    · decide
    · have hx' : d0 = .agg [y0, y1, y2, .slice elems rest] := hx
      subst hx'
      rw [← he]
      exact sized_prog hsz rfl rfl
  obtain ⟨i1, rfl, rfl, rfl, w1⟩ := open_int Tryd.underlying3 (hval 1 3 v1 rfl rfl) h1
  have b1 : Rng i1 := bounds_i64 w1
  obtain ⟨a2, len2, c2, rfl⟩ := okWide_slice Tryd.underlying32 (hval 2 32 v2 rfl rfl)
  obtain ⟨x2, rfl, hA2, hr2, hl2⟩ : ∃ xs : List Int, xs.length = len2 ∧ HeldI W a2 xs ∧ (∀ i, i < xs.length → Rng (nth xs i)) ∧ xs.length * 8 ≤ 140737488351232 := by
    obtain ⟨fuel, hf⟩ := h2
    rcases open_numsR hf with hcs | ⟨x, l, c, X, elems, rest, hcs, hX, hx, he, hh, hr⟩
    · simp [Value.cells] at hcs
      obtain ⟨rfl, rfl, rfl⟩ := hcs
      exact ⟨[], rfl, .inl rfl, fun i hi => absurd hi (Nat.not_lt_zero _), by decide⟩
    · simp [Value.cells] at hcs
      obtain ⟨rfl, rfl, rfl⟩ := hcs
      have hx' : d2 = .slice elems rest := hx
      subst hx'
      have := sized_slice hsz (j := 2) (t := 32) (e := 3) rfl rfl Tryd.underlying32
      rw [bytes3] at this
      unfold reachBytes at this
      exact ⟨X, hX, hh, hr, by rw [hX, ← he]; omega⟩
  obtain ⟨i3, rfl, rfl, rfl, w3⟩ := open_int Tryd.underlying3 (hval 3 3 v3 rfl rfl) h3
  have b3 : Rng i3 := bounds_i64 w3
  clear hA0 hval0
  have hW0 : 0 < W.heap.size := World.block_lt_of_cell? W ⟨0, 0 * 3 + 0, none⟩ (hT 0 0 (by decide) (by decide))
  refine (told_walk (fun P R V L ac aa cc ca xs fuel w h1 h2 h3 h4 => runPlaced_any P R V L ac aa cc ca xs fuel w h1 h2 h3 h4) (fun K S P V L T ac aa cc ca xs fuel w h1 h2 h3 h4 h5 => runUnit_any K S P V L T ac aa cc ca xs fuel w h1 h2 h3 h4 h5) P0 R0 V0 L0 ac cc i1 x2 a2 c2 i3 W hH (by omega) hA2 hr2 (by omega) b3 hT hW0).mono fun e W' ⟨he, bel⟩ => ?_
  subst he
  exact ⟨_, rfl, _, _, _, [], _, [], hW', trodAll_mk1 (shut_bool Tryd.underlying4 _), (trodAll_cons_mk (Below.trod laidOut (by kernel_rfl) (of_decide_eq_true (by kernel_rfl)) k0 bel lt0) (trodAll_cons_mk (shut_int Tryd.underlying3 w1) (trodAll_cons_mk (Below.trod laidOut (by kernel_rfl) (of_decide_eq_true (by kernel_rfl)) k2 bel lt2) (trodAll_cons_mk (shut_int Tryd.underlying3 w3) trodAll_mk0)))), rfl, bel.frame _, fun h => by cases h⟩

theorem row : Rows.ToldSaid :=
  OpenClaim.holds_of_wide 8 Tryd.f8 rfl rfl rfl rfl rfl rfl rfl ⟨rfl, rfl, rfl, rfl, rfl⟩ rfl rfl rfl rfl rfl (by kernel_rfl) Tryd.func8 (by kernel_rfl)
    (of_decide_eq_true (by kernel_rfl)) (by unfold Func.isWrapper; first | (rw [if_pos (by decide +kernel)]; kernel_rfl) | (rw [if_neg (by decide +kernel)]; exact ⟨rfl, rfl⟩))
    (fun os started H enc _ => lifted os started H enc)

theorem card : Rows.ToldCardSaid :=
  Claim7.holds_tied_plain_at .later [] [.data] true (true, "f9a29037940c574d6341b0499574fd24eaec2641ee81379986cf360f2307c55f") false
    row (fun _ h => by cases h) (by kernel_rfl) (fun _ h => by cases h) told_row_tie rfl ⟨rfl, rfl⟩ (by kernel_rfl) rfl
    (fun f fn hf hfn => by
      obtain rfl : f = 8 := Option.some.inj ((show Tryd.prog.funcNamed "lodge/lodgelaw.Told" = some 8 by kernel_rfl).symm.trans hf) |>.symm
      obtain rfl : fn = Tryd.f8 := (Option.some.inj (Tryd.func8.symm.trans hfn)).symm
      exact ⟨by kernel_rfl, fun j t ht => by
        rw [Tryd.params8] at ht
        have hm : t ∈ [24, 3, 32, 3] := by simpa using Array.mem_of_getElem? ht
        have hall : ([24, 3, 32, 3].all fun u => !Tryd.prog.wantsStandIn u) = true := by kernel_rfl
        exact (show Tryd.prog.wantsStandIn t = false by simpa using List.all_eq_true.1 hall t hm)⟩)
    (by kernel_rfl)
end Go.Proofs.YtoepcplbpochpaaDoor.told
namespace Go.Proofs.YtoepcplbpochpaaDoor
theorem told_holds : Rows.ToldCardSaid := told.card
#print axioms told_holds
end Go.Proofs.YtoepcplbpochpaaDoor
