/-
  PROVED: for every unit u, all args and every fuel, the call lodgelaw.Units(u, args, fuel) of the landed program returns true (mach.Run answers just what the document's own run of a unit answers, what its table tells too, twice; what was handed in, and its spare room, stay as they were, also when what came out is written full), and its arguments read afterwards as before. Conditions: the package-level table of the kinds of fields reads as the program's text lays it (tied).
-/
import Derived.Test.YtoepcplbpochpaaDoorUnit47
import Derived.Test.YtoepcplbpochpaaDoorUnit48
import Derived.Test.YtoepcplbpochpaaDoorCards
import Derived.Test.YtoepcplbpochpaaDoorTie
import Derived.WalkKit
import Derived.ProofKit
import Derived.LaidMore
import Derived.OpenShut
import Derived.ChangeOld
import Derived.Below
import Derived.SizedLaws
import Derived.Stop.Joined
import Derived.SevenTiedAt

namespace Go.Proofs.YtoepcplbpochpaaDoor.units
open Go.ChangeShapes Go.WideShapes Go.ChangeAt Go.WideMaps Go.WideElems Go.RowKit

theorem own : ownKnob Tryd.prog.godebug = none := by kernel_rfl
theorem laidOut : laidOutB Tryd.prog = true := by kernel_rfl
theorem bytes3 : Tryd.prog.bytesOf 3 = 8 := by kernel_rfl

/-- The door's own heap meets the condition. -/
theorem door_met (os : Os) (args : Array Value) : laidMetH Tryd.prog [("lodge/code.kinds", Rows.laid_lodge_code_kinds)] ((World.doorLaid Tryd.prog 31 os).forCall (fun _ _ => 0) ⟨#[], args, []⟩).memory :=
  laidMetH_of_parts3 (fuel := 8) (laidMet_of_run' 8 (by kernel_rfl) (by kernel_rfl)) (by kernel_rfl) (by kernel_rfl)

set_option maxRecDepth 100000 in
set_option maxHeartbeats 4000000 in
theorem lifted (os : Os) (started : os.Started) (H : Type) (enc : TypeId × Value → H) :
    ReturnsInHanded {} Tryd.checked os 5 .any (fun w args => (Rows.unitsSpec.pre enc Tryd.prog Tryd.f5 [] false w args ∧ laidMetH Tryd.prog [("lodge/code.kinds", Rows.laid_lodge_code_kinds)] w) ∧ sizedMet enc Tryd.prog Tryd.f5 (OpenSpec.ofChange Rows.unitsSpec) false w args)
      (Rows.unitsSpec.post enc Tryd.prog Tryd.f5 false true false false) := by
  refine returnsInHanded_of_change_and (C := Tryd.checked) (X := fun w _ => laidMetH Tryd.prog [("lodge/code.kinds", Rows.laid_lodge_code_kinds)] w) (fun _ _ _ hh h => h.of_heap hh) own started (by kernel_rfl) Tryd.func5
    (ChangeSpec.witness_shaped (enc := enc) (C := Tryd.checked) (os := os) (X := fun w _ => laidMetH Tryd.prog [("lodge/code.kinds", Rows.laid_lodge_code_kinds)] w) false (World.doorLaid Tryd.prog 31 os) #[.agg #[.int .i64 0, .int .i64 0, .int .i64 0, .int .i64 0, .slice none 0 0, .string ByteArray.empty], .slice none 0 0, .int .i64 0] 8 rfl (World.shaped_of_RefB (by kernel_rfl) (by kernel_rfl)) (by kernel_rfl) (by kernel_rfl) (by kernel_rfl) (door_met os _)) ?_
  intro W base args ds gs before hval0 hW hcnd hsz0 hL _
  have hsz : (DataW.weightsEach Tryd.prog (Tryd.f5.params.toList ++ Rows.unitsSpec.plain.varTypes Tryd.prog) (ds ++ gs)).all (· ≤ reachBytes) = true := hsz0
  have hval : ∀ (j : Nat) t v, Tryd.f5.params[j]? = some t → args[j]? = some v → Value.okWide Tryd.prog W .any base t v := hval0
  have hW' := hW
  obtain ⟨p, q, hA0, hV, rfl, hfz, hnd⟩ := hW
  have hA : DataW.TrodAll enc Tryd.prog W 0 (fun _ => true) true Tryd.f5.params.toList args.toList ds p := hA0
  rw [Tryd.params5] at hA hval hsz
  obtain ⟨v0, vs0, d0, ds0, p0, q0, hargs, rfl, rfl, h0, r0⟩ := trodAll_cons hA
  obtain ⟨v1, vs1, d1, ds1, p1, q1, rfl, rfl, rfl, h1, r1⟩ := trodAll_cons r0
  obtain ⟨v2, vs2, d2, ds2, p2, q2, rfl, rfl, rfl, h2, r2⟩ := trodAll_cons r1
  obtain ⟨rfl, rfl, rfl⟩ := trodAll_nil r2
  obtain rfl : args = #[v0, v1, v2] := by cases args; simp_all
  obtain ⟨rfl, rfl⟩ := trodVars_none hV
  have hT := of_laid hL
  have k0 := h0
  have k1 := h1
  have lt0 : ∀ x ∈ p0, x.block < W.heap.size := by obtain ⟨m, hm⟩ := k0; exact DataW.trod_lt m _ _ _ hm
  have lt1 : ∀ x ∈ p1, x.block < W.heap.size := by obtain ⟨m, hm⟩ := k1; exact DataW.trod_lt m _ _ _ hm
  obtain ⟨cu, rfl, hcu⟩ := okWide_struct Tryd.underlying26 (hval 0 26 v0 rfl rfl)
  obtain ⟨K, S, P, V, ac, L, cc, T, rfl, hH, hs, hlen⟩ : ∃ (K S P V : Int) (ac : Option Addr) (L : List In4) (cc : Nat) (T : ByteArray), cu = #[.int .i64 K, .int .i64 S, .int .i64 P, .int .i64 V, .slice ac L.length cc, .string T] ∧ HeldIns W ac L ∧ T.size ≤ maxLen ∧ L.length * 32 ≤ 140737488351232 := by
    obtain ⟨fuel, hf0⟩ := h0
    have hf1 : DataW.trod enc Tryd.prog W 0 (fun _ => true) true fuel 26 cu.toList = some (d0, p0) := hf0
    obtain ⟨K, S, P, V, ac, L, cc, T, hcl, hh, hs, hor⟩ := open_unit hf1
    refine ⟨K, S, P, V, ac, L, cc, T, Array.toList_inj.1 hcl, hh, hs, ?_⟩
    rcases hor with rfl | ⟨y0, y1, y2, y3, elems, rest, y5, hx, he⟩
    · decide
    · have hx' : d0 = .agg [y0, y1, y2, y3, .slice elems rest, y5] := hx
      subst hx'
      rw [← he]
      exact sized_unit (j := 0) hsz rfl rfl
  obtain ⟨a1, len1, cap1, rfl⟩ := okWide_slice Tryd.underlying32 (hval 1 32 v1 rfl rfl)
  obtain ⟨xs, rfl, hA1, hl1⟩ : ∃ xs : List Int, xs.length = len1 ∧ HeldI W a1 xs ∧ xs.length * 8 ≤ 140737488351232 := by
    obtain ⟨fuel, hf⟩ := h1
    rcases open_nums hf with hcs | ⟨x, l, c, X, elems, rest, hcs, hX, hx, he, hh⟩
    · simp [Value.cells] at hcs
      obtain ⟨rfl, rfl, rfl⟩ := hcs
      exact ⟨[], rfl, .inl rfl, by decide⟩
    · simp [Value.cells] at hcs
      obtain ⟨rfl, rfl, rfl⟩ := hcs
      have hx' : d1 = .slice elems rest := hx
      subst hx'
      have := sized_slice hsz (j := 1) (t := 32) (e := 3) rfl rfl Tryd.underlying32
      rw [bytes3] at this
      unfold reachBytes at this
      exact ⟨X, hX, hh, by rw [hX, ← he]; omega⟩
  obtain ⟨fuel, rfl, rfl, rfl, w2⟩ := open_int Tryd.underlying3 (hval 2 3 v2 rfl rfl) h2
  clear hA0 hval0
  have hW0 : 0 < W.heap.size := World.block_lt_of_cell? W ⟨0, 0 * 3 + 0, none⟩ (hT 0 0 (by decide) (by decide))
  refine (units_walk K S P V T L ac a1 cc cap1 xs fuel W hH hA1 hT hW0 hlen hl1 hs).mono fun e W' ⟨he, bel⟩ => ?_
  subst he
  exact ⟨_, rfl, _, _, _, [], _, [], hW', trodAll_mk1 (shut_bool Tryd.underlying4 _), (trodAll_cons_mk (Below.trod laidOut (by kernel_rfl) (of_decide_eq_true (by kernel_rfl)) k0 bel lt0) (trodAll_cons_mk (Below.trod laidOut (by kernel_rfl) (of_decide_eq_true (by kernel_rfl)) k1 bel lt1) (trodAll_cons_mk (shut_int Tryd.underlying3 w2) trodAll_mk0))), rfl, bel.frame _, fun h => by cases h⟩

theorem row : Rows.UnitsSaid :=
  OpenClaim.holds_of_wide 5 Tryd.f5 rfl rfl rfl rfl rfl rfl rfl ⟨rfl, rfl, rfl, rfl, rfl⟩ rfl rfl rfl rfl rfl (by kernel_rfl) Tryd.func5 (by kernel_rfl)
    (of_decide_eq_true (by kernel_rfl)) (by unfold Func.isWrapper; first | (rw [if_pos (by decide +kernel)]; kernel_rfl) | (rw [if_neg (by decide +kernel)]; exact ⟨rfl, rfl⟩))
    (fun os started H enc _ => lifted os started H enc)

theorem card : Rows.UnitsCardSaid :=
  Claim7.holds_tied_plain_at .later [] [.data] true (true, "f9a29037940c574d6341b0499574fd24eaec2641ee81379986cf360f2307c55f") false
    row (fun _ h => by cases h) (by kernel_rfl) (fun _ h => by cases h) units_row_tie rfl ⟨rfl, rfl⟩ (by kernel_rfl) rfl
    (fun f fn hf hfn => by
      obtain rfl : f = 5 := Option.some.inj ((show Tryd.prog.funcNamed "lodge/lodgelaw.Units" = some 5 by kernel_rfl).symm.trans hf) |>.symm
      obtain rfl : fn = Tryd.f5 := (Option.some.inj (Tryd.func5.symm.trans hfn)).symm
      exact ⟨by kernel_rfl, fun j t ht => by
        rw [Tryd.params5] at ht
        have hm : t ∈ [26, 32, 3] := by simpa using Array.mem_of_getElem? ht
        have hall : ([26, 32, 3].all fun u => !Tryd.prog.wantsStandIn u) = true := by kernel_rfl
        exact (show Tryd.prog.wantsStandIn t = false by simpa using List.all_eq_true.1 hall t hm)⟩)
    (by kernel_rfl)
end Go.Proofs.YtoepcplbpochpaaDoor.units
namespace Go.Proofs.YtoepcplbpochpaaDoor
theorem units_holds : Rows.UnitsCardSaid := units.card
#print axioms units_holds
end Go.Proofs.YtoepcplbpochpaaDoor
