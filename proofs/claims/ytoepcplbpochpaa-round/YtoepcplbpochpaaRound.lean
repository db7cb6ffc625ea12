/-
  PROVED: for every list raw of ranges and every string bytes, the call lodgekeep.Round(raw, bytes) of the landed program returns true (each table comes back out of its bytes; bytes that are read are what is written of what they are read as; a range twice, two ranges in the other order, a range cut in two that are alike are refused), and its arguments read afterwards as before. Conditions: none but the form's own.
  The frame of the row's step goes by the guide's own program (proof-skeleton.mjs), turned by hand for a slice of structs.
-/
import Derived.Test.YtoepcplbpochpaaRoundWalk
import Derived.Test.YtoepcplbpochpaaTableOf
import Derived.Test.YtoepcplbpochpaaOpen
import Derived.WalkKit
import Derived.ProofKit
import Derived.OpenShut
import Derived.ShutString
import Derived.ChangeOld
import Derived.Below
import Derived.SizedLaws
namespace Go.Proofs.Ytoepcplbpochpaa.round
open Go.ChangeShapes Go.WideShapes Go.ChangeAt Go.RowKit
open Go.ChangeMaps (open_string shut_string)
set_option linter.unusedVariables false

theorem own : ownKnob Try.prog.godebug = none := by kernel_rfl
theorem laidOut : laidOutB Try.prog = true := by kernel_rfl
theorem bytes30 : Try.prog.bytesOf 30 = 40 := by kernel_rfl

theorem walk (R : List Rg) (ao : Option Addr) (cap : Nat) (s : ByteArray) (w : World) (hH : Held w ao R) (hI : ∀ i, i < R.length → Ints (rg R i)) (hlen : R.length * 40 ≤ 140737488351232) (hs : s.size ≤ maxLen) :
    Calls Try.prog 6 #[.slice ao R.length cap, .string s] w fun e w' => e = .returned (.bool true) ∧ Below w.heap.size w w' := by
  have TB := table_any R ao cap w hH hI (by omega)
  by_cases h : ∃ T, Tab s T
  · obtain ⟨T, hT⟩ := h
    exact round_yes _ s w hs T hT (hide TB)
  · exact round_no _ s w hs (fun T hT => h ⟨T, hT⟩) (hide TB)

set_option maxRecDepth 100000 in
theorem lifted (os : Os) (started : os.Started) (H : Type) (enc : TypeId × Value → H) :
    ReturnsInHanded {} Try.checked os 6 .any (Rows.roundSpec.pre6 enc Try.prog Try.f6 Rows.roundRow.domain false) (Rows.roundSpec.post enc Try.prog Try.f6 false true false false) := by
  refine returnsInHanded_of_change_sized (C := Try.checked) own started (by kernel_rfl) Try.func6
    (ChangeSpec.witness6 (enc := enc) (C := Try.checked) false ⟨#[], #[.slice none 0 0, .string ByteArray.empty], []⟩ 8 (by kernel_rfl) (by kernel_rfl) (by kernel_rfl) (by kernel_rfl)) ?_
  intro W base args ds gs before hval0 hW hcnd hsz0 _
  have hsz : (DataW.weightsEach Try.prog (Try.f6.params.toList ++ Rows.roundSpec.plain.varTypes Try.prog) (ds ++ gs)).all (· ≤ reachBytes) = true := hsz0
  have hval : ∀ (j : Nat) t v, Try.f6.params[j]? = some t → args[j]? = some v → Value.okWide Try.prog W .any base t v := hval0
  have hW' := hW
  obtain ⟨p, q, hA0, hV, rfl, hfz, hnd⟩ := hW
  have hA : DataW.TrodAll enc Try.prog W 0 (fun _ => true) true Try.f6.params.toList args.toList ds p := hA0
  rw [Try.params6] at hA hval hsz
  obtain ⟨v0, vs0, d0, ds0, p0, q0, hargs, rfl, rfl, h0, r0⟩ := trodAll_cons hA
  obtain ⟨v1, vs1, d1, ds1, p1, q1, rfl, rfl, rfl, h1, r1⟩ := trodAll_cons r0
  obtain ⟨rfl, rfl, rfl⟩ := trodAll_nil r1
  obtain rfl : args = #[v0, v1] := by cases args; simp_all
  obtain ⟨rfl, rfl⟩ := trodVars_none hV
  obtain ⟨a0, len0, cap0, rfl⟩ := okWide_slice Try.underlying28 (hval 0 28 v0 rfl rfl)
  have k0 := h0
  have lt0 : ∀ x ∈ p0, x.block < W.heap.size := by obtain ⟨m, hm⟩ := k0; exact DataW.trod_lt m _ _ _ hm
  obtain ⟨R, rfl, hH, hI, hlen⟩ : ∃ R : List Rg, R.length = len0 ∧ Held W a0 R ∧ (∀ i, i < R.length → Ints (rg R i)) ∧ R.length * 40 ≤ 140737488351232 := by
    obtain ⟨fuel, hf⟩ := h0
    rcases open_ranges hf with hcs | ⟨x, l, c, R, elems, rest, hcs, hR, hx, he, hh, hii⟩
    · simp [Value.cells] at hcs
      obtain ⟨rfl, rfl, rfl⟩ := hcs
      exact ⟨[], rfl, .inl rfl, fun i hi => absurd hi (by simp), by decide⟩
    · simp [Value.cells] at hcs
      obtain ⟨rfl, rfl, rfl⟩ := hcs
      have hx' : d0 = .slice elems rest := hx
      subst hx'
      have := sized_slice hsz (j := 0) (t := 28) (e := 30) rfl rfl Try.underlying28
      rw [bytes30] at this
      unfold reachBytes at this
      exact ⟨R, hR, hh, by rw [hR]; exact hii, by rw [hR, ← he]; omega⟩
  obtain ⟨a1, rfl, rfl, rfl, w1⟩ := open_string Try.underlying9 (hval 1 9 v1 rfl rfl) h1
  clear hA0 hval0
  refine (walk R a0 cap0 a1 W hH hI hlen w1).mono fun e W' ⟨he, bel⟩ => ?_
  subst he
  exact ⟨_, rfl, _, _, _, [], _, [], hW', trodAll_mk1 (shut_bool Try.underlying4 _), (trodAll_cons_mk (Below.trod laidOut (by kernel_rfl) (of_decide_eq_true (by kernel_rfl)) k0 bel lt0) (trodAll_cons_mk (shut_string Try.underlying9 w1) trodAll_mk0)), rfl, bel.frame _, fun h => by cases h⟩

theorem over : Rows.roundRow.holds Try.pinned (OpenSpec.ofChange Rows.roundSpec) :=
  OpenClaim.holds_of_wide 6 Try.f6 rfl rfl rfl rfl rfl rfl rfl ⟨rfl, rfl, rfl, rfl, rfl⟩ rfl rfl rfl rfl rfl (by kernel_rfl) Try.func6 (by kernel_rfl)
    (of_decide_eq_true (by kernel_rfl)) (by unfold Func.isWrapper; first | (rw [if_pos (by decide +kernel)]; kernel_rfl) | (rw [if_neg (by decide +kernel)]; exact ⟨rfl, rfl⟩))
    (fun os started H enc _ => lifted os started H enc)

theorem proved : Rows.RoundSaid := over
end Go.Proofs.Ytoepcplbpochpaa.round
namespace Go.Proofs.Ytoepcplbpochpaa
theorem round_holds : Rows.RoundSaid := round.proved
#print axioms round_holds
end Go.Proofs.Ytoepcplbpochpaa
