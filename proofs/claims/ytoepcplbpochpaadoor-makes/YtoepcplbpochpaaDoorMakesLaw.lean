/-
  PROVED: for every program and machine, the call lodgelaw.Makes(p, k) of the landed program returns true (Compile answers the document's error, with the zero unit, or a unit that is right by the document and no larger than it may be, with as few Loads and Stores as the document asks; the code that was handed in, and its spare room, are as they were; asked again behind other calls, with the first unit's code written full, it answers the same code, table and slots), and its arguments read afterwards as before. Conditions: the package-level table of the kinds of fields reads as the program's text lays it (tied).
-/
import Derived.Test.YtoepcplbpochpaaDoorPart28
import Derived.Test.YtoepcplbpochpaaDoorPart29
import Derived.Test.YtoepcplbpochpaaDoorCards
import Derived.Test.YtoepcplbpochpaaDoorTie
import Derived.WalkKit
import Derived.ProofKit
import Derived.LaidMore
import Derived.OpenShut
import Derived.ChangeOld
import Derived.Below
import Derived.SizedLaws
import Derived.Stop.Joined
import Derived.SevenTiedAt

namespace Go.Proofs.YtoepcplbpochpaaDoor.makes
open Go.ChangeShapes Go.WideShapes Go.ChangeAt Go.WideMaps Go.WideElems Go.RowKit

theorem own : ownKnob Tryd.prog.godebug = none := by kernel_rfl
theorem laidOut : laidOutB Tryd.prog = true := by kernel_rfl
theorem bytes3 : Tryd.prog.bytesOf 3 = 8 := by kernel_rfl

/-- The door's own heap meets the condition. -/
theorem door_met (os : Os) (args : Array Value) : laidMetH Tryd.prog [("lodge/code.kinds", Rows.laid_lodge_code_kinds)] ((World.doorLaid Tryd.prog 31 os).forCall (fun _ _ => 0) ⟨#[], args, []⟩).memory :=
  laidMetH_of_parts3 (fuel := 8) (laidMet_of_run' 8 (by kernel_rfl) (by kernel_rfl)) (by kernel_rfl) (by kernel_rfl)

set_option maxRecDepth 100000 in
set_option maxHeartbeats 4000000 in
theorem lifted (os : Os) (started : os.Started) (H : Type) (enc : TypeId × Value → H) :
    ReturnsInHanded {} Tryd.checked os 6 .any (fun w args => (Rows.makesSpec.pre enc Tryd.prog Tryd.f6 [] false w args ∧ laidMetH Tryd.prog [("lodge/code.kinds", Rows.laid_lodge_code_kinds)] w) ∧ sizedMet enc Tryd.prog Tryd.f6 (OpenSpec.ofChange Rows.makesSpec) false w args)
      (Rows.makesSpec.post enc Tryd.prog Tryd.f6 false true false false) := by
  refine returnsInHanded_of_change_and (C := Tryd.checked) (X := fun w _ => laidMetH Tryd.prog [("lodge/code.kinds", Rows.laid_lodge_code_kinds)] w) (fun _ _ _ hh h => h.of_heap hh) own started (by kernel_rfl) Tryd.func6
    (ChangeSpec.witness_shaped (enc := enc) (C := Tryd.checked) (os := os) (X := fun w _ => laidMetH Tryd.prog [("lodge/code.kinds", Rows.laid_lodge_code_kinds)] w) false (World.doorLaid Tryd.prog 31 os) #[.agg #[.int .i64 0, .int .i64 0, .int .i64 0, .slice none 0 0], .int .i64 0] 8 rfl (World.shaped_of_RefB (by kernel_rfl) (by kernel_rfl)) (by kernel_rfl) (by kernel_rfl) (by kernel_rfl) (door_met os _)) ?_
  intro W base args ds gs before hval0 hW hcnd hsz0 hL _
  have hsz : (DataW.weightsEach Tryd.prog (Tryd.f6.params.toList ++ Rows.makesSpec.plain.varTypes Tryd.prog) (ds ++ gs)).all (· ≤ reachBytes) = true := hsz0
  have hval : ∀ (j : Nat) t v, Tryd.f6.params[j]? = some t → args[j]? = some v → Value.okWide Tryd.prog W .any base t v := hval0
  have hW' := hW
  obtain ⟨p, q, hA0, hV, rfl, hfz, hnd⟩ := hW
  have hA : DataW.TrodAll enc Tryd.prog W 0 (fun _ => true) true Tryd.f6.params.toList args.toList ds p := hA0
  rw [Tryd.params6] at hA hval hsz
  obtain ⟨v0, vs0, d0, ds0, p0, q0, hargs, rfl, rfl, h0, r0⟩ := trodAll_cons hA
  obtain ⟨v1, vs1, d1, ds1, p1, q1, rfl, rfl, rfl, h1, r1⟩ := trodAll_cons r0
  obtain ⟨rfl, rfl, rfl⟩ := trodAll_nil r1
  obtain rfl : args = #[v0, v1] := by cases args; simp_all
  obtain ⟨rfl, rfl⟩ := trodVars_none hV
  have hT := of_laid hL
  have k0 := h0
  have lt0 : ∀ x ∈ p0, x.block < W.heap.size := by obtain ⟨m, hm⟩ := k0; exact DataW.trod_lt m _ _ _ hm
  obtain ⟨cu, rfl, hcu⟩ := okWide_struct Tryd.underlying24 (hval 0 24 v0 rfl rfl)
  obtain ⟨P0, R0, V0, ac, L0, cc, rfl, hH, hv, hP0, hR0, hV0, hcc, hlen⟩ : ∃ (P0 R0 V0 : Int) (ac : Option Addr) (L0 : List In4) (cc : Nat), cu = #[.int .i64 P0, .int .i64 R0, .int .i64 V0, .slice ac L0.length cc] ∧ HeldIns W ac L0 ∧ RngI L0 ∧ Rng P0 ∧ Rng R0 ∧ Rng V0 ∧ L0.length ≤ cc ∧ L0.length * 32 ≤ 140737488351232 := by
    obtain ⟨fuel, hf0⟩ := h0
    have hf1 : DataW.trod enc Tryd.prog W 0 (fun _ => true) true fuel 24 cu.toList = some (d0, p0) := hf0
    obtain ⟨P0, R0, V0, ac, L0, cc, hcl, hh, g1, g2, g3, g4, g5, hor⟩ := open_progR hf1
    refine ⟨P0, R0, V0, ac, L0, cc, Array.toList_inj.1 hcl, hh, g1, g2, g3, g4, g5, ?_⟩
    rcases hor with rfl | ⟨y0, y1, y2, elems, rest, hx, he⟩
    · decide
    · have hx' : d0 = .agg [y0, y1, y2, .slice elems rest] := hx
      subst hx'
      rw [← he]
      exact sized_prog hsz rfl rfl
  obtain ⟨i1, rfl, rfl, rfl, w1⟩ := open_int Tryd.underlying3 (hval 1 3 v1 rfl rfl) h1
  have b1 : Rng i1 := bounds_i64 w1
  clear hA0 hval0
  have hW0 : 0 < W.heap.size := World.block_lt_of_cell? W ⟨0, 0 * 3 + 0, none⟩ (hT 0 0 (by decide) (by decide))
  refine (makes_walk P0 R0 V0 L0 ac cc i1 W hH hlen hT hW0).mono fun e W' ⟨he, bel⟩ => ?_
  subst he
  exact ⟨_, rfl, _, _, _, [], _, [], hW', trodAll_mk1 (shut_bool Tryd.underlying4 _), (trodAll_cons_mk (Below.trod laidOut (by kernel_rfl) (of_decide_eq_true (by kernel_rfl)) k0 bel lt0) (trodAll_cons_mk (shut_int Tryd.underlying3 w1) trodAll_mk0)), rfl, bel.frame _, fun h => by cases h⟩

theorem row : Rows.MakesSaid :=
  OpenClaim.holds_of_wide 6 Tryd.f6 rfl rfl rfl rfl rfl rfl rfl ⟨rfl, rfl, rfl, rfl, rfl⟩ rfl rfl rfl rfl rfl (by kernel_rfl) Tryd.func6 (by kernel_rfl)
    (of_decide_eq_true (by kernel_rfl)) (by unfold Func.isWrapper; first | (rw [if_pos (by decide +kernel)]; kernel_rfl) | (rw [if_neg (by decide +kernel)]; exact ⟨rfl, rfl⟩))
    (fun os started H enc _ => lifted os started H enc)

theorem card : Rows.MakesCardSaid :=
  Claim7.holds_tied_plain_at .later [] [.data] true (true, "f9a29037940c574d6341b0499574fd24eaec2641ee81379986cf360f2307c55f") false
    row (fun _ h => by cases h) (by kernel_rfl) (fun _ h => by cases h) makes_row_tie rfl ⟨rfl, rfl⟩ (by kernel_rfl) rfl
    (fun f fn hf hfn => by
      obtain rfl : f = 6 := Option.some.inj ((show Tryd.prog.funcNamed "lodge/lodgelaw.Makes" = some 6 by kernel_rfl).symm.trans hf) |>.symm
      obtain rfl : fn = Tryd.f6 := (Option.some.inj (Tryd.func6.symm.trans hfn)).symm
      exact ⟨by kernel_rfl, fun j t ht => by
        rw [Tryd.params6] at ht
        have hm : t ∈ [24, 3] := by simpa using Array.mem_of_getElem? ht
        have hall : ([24, 3].all fun u => !Tryd.prog.wantsStandIn u) = true := by kernel_rfl
        exact (show Tryd.prog.wantsStandIn t = false by simpa using List.all_eq_true.1 hall t hm)⟩)
    (by kernel_rfl)
end Go.Proofs.YtoepcplbpochpaaDoor.makes
namespace Go.Proofs.YtoepcplbpochpaaDoor
theorem makes_holds : Rows.MakesCardSaid := makes.card
#print axioms makes_holds
end Go.Proofs.YtoepcplbpochpaaDoor
