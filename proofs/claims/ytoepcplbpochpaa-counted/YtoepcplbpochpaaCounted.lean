/-
  PROVED: for every number n and all strings ahead and behind, the call lodgekeep.Counted(n, ahead, behind) of the landed program returns true (a number that is written is read again wherever it stands, in as few bytes as can be; cut short or drawn out it is refused), and its arguments read afterwards as before. Conditions: none but the form's own.
  The frame of the row's step was written by the guide's own program (proof-skeleton.mjs) and turned by hand.
-/
import Derived.Test.YtoepcplbpochpaaCountedFacts
import Derived.Test.YtoepcplbpochpaaCountedWalkTwo
import Derived.Test.YtoepcplbpochpaaCountedWalkThree
import Derived.ChangeOld
import Derived.Below
import Derived.SizedLaws
import Derived.WalkKit
import Derived.ProofKit
import Derived.OpenShut
import Derived.ShutString
namespace Go.Proofs.Ytoepcplbpochpaa.counted
open Go.ChangeShapes Go.WideShapes Go.ChangeAt Go.RowKit
open Go.ChangeMaps (open_string shut_string)
set_option linter.unusedVariables false      -- a walk need not use every 'w<i>' (that an integer argument fits its kind)

theorem own : ownKnob Try.prog.godebug = none := by kernel_rfl

theorem pick_own (n : Int) : (n == pickI n 2097152) = decide (0 ≤ n ∧ n ≤ 2097151) := by
  rw [Bool.eq_iff_iff]; simp only [beq_iff_eq, decide_eq_true_eq]; unfold pickI; split <;> omega

theorem walk (a0 : Int) (a1 : ByteArray) (a2 : ByteArray) (w0 : (Lit.int .i64 a0).wf = true) (w1 : a1.size ≤ 140737488351232) (w2 : a2.size ≤ 140737488351232) (w : World) :
    Calls Try.prog 5 #[.int .i64 a0, .string a1, .string a2] w fun e w' => e = .returned (.bool true) ∧ Below w.heap.size w w' := by
  obtain ⟨l0, l1⟩ := bounds_i64 w0
  obtain ⟨p0, p1⟩ := pick_lt a0 2097152 (by decide)
  obtain ⟨T, z, hz, Q⟩ : ∃ (T : ByteArray) (z : Int), (z == 0) = decide (0 ≤ a0 ∧ a0 ≤ 2097151) ∧ (∀ w, Calls Try.prog 7 #[.int .i64 a0] w fun e w' => e = .returned (.tuple #[.string T, .int .i64 z]) ∧ Below w.heap.size w w') := by
    by_cases h : 0 ≤ a0 ∧ a0 ≤ 2097151
    · refine ⟨numS a0, 0, by simp [h], fun w => ?_⟩
      have := put_any a0 w
      rw [putR_yes h.1 h.2] at this
      exact this
    · refine ⟨ByteArray.empty, 13, by simp only [h, decide_false]; rfl, fun w => ?_⟩
      have := put_any a0 w
      rw [putR_no h] at this
      exact this
  have sz := numS_size (pickI a0 2097152)
  rw [enc_len] at sz
  by_cases h1 : pickI a0 2097152 < 128
  · rw [if_pos h1] at sz
    have hp : 0 < (numS (pickI a0 2097152)).size := by omega
    exact counted_one a0 _ a1 a2 _ w l0 l1 rfl p0 h1 w1 w2 hp (facts_one p0 h1 w1 w2 hp) T z _ (hide Q) hz (pick_own a0)
  rw [if_neg h1] at sz
  by_cases h2 : pickI a0 2097152 < 16384
  · rw [if_pos h2] at sz
    have hp : 1 < (numS (pickI a0 2097152)).size := by omega
    exact counted_two a0 _ a1 a2 _ w l0 l1 rfl (by omega) h2 w1 w2 hp (facts_two (by omega) h2 w1 w2 hp) T z _ (hide Q) hz (pick_own a0)
  · rw [if_neg h2] at sz
    have hp : 2 < (numS (pickI a0 2097152)).size := by omega
    exact counted_three a0 _ a1 a2 _ w l0 l1 rfl (by omega) (by omega) w1 w2 hp (facts_three (by omega) (by omega) w1 w2 hp) T z _ (hide Q) hz (pick_own a0)

/-! ### THE ROW's STEP: WRITTEN OUT: LEAVE IT -/
set_option maxRecDepth 100000 in
theorem lifted (os : Os) (started : os.Started) (H : Type) (enc : TypeId × Value → H) :
    ReturnsInHanded {} Try.checked os 5 .any (Rows.countedSpec.pre6 enc Try.prog Try.f5 Rows.countedRow.domain false) (Rows.countedSpec.post enc Try.prog Try.f5 false true false false) := by
  refine returnsInHanded_of_change_sized (C := Try.checked) own started (by kernel_rfl) Try.func5
    (ChangeSpec.witness6 (enc := enc) (C := Try.checked) false ⟨#[], #[.int .i64 0, .string ByteArray.empty, .string ByteArray.empty], []⟩ 8 (by kernel_rfl) (by kernel_rfl) (by kernel_rfl) (by kernel_rfl)) ?_
  intro W base args ds gs before hval0 hW hcnd hsz0 _
  have hsz : (DataW.weightsEach Try.prog (Try.f5.params.toList ++ Rows.countedSpec.plain.varTypes Try.prog) (ds ++ gs)).all (· ≤ reachBytes) = true := hsz0
  have hval : ∀ (j : Nat) t v, Try.f5.params[j]? = some t → args[j]? = some v → Value.okWide Try.prog W .any base t v := hval0
  have hW' := hW
  obtain ⟨p, q, hA0, hV, rfl, hfz, hnd⟩ := hW
  have hA : DataW.TrodAll enc Try.prog W 0 (fun _ => true) true Try.f5.params.toList args.toList ds p := hA0
  rw [Try.params5] at hA hval hsz
  obtain ⟨v0, vs0, d0, ds0, p0, q0, hargs, rfl, rfl, h0, r0⟩ := trodAll_cons hA
  obtain ⟨v1, vs1, d1, ds1, p1, q1, rfl, rfl, rfl, h1, r1⟩ := trodAll_cons r0
  obtain ⟨v2, vs2, d2, ds2, p2, q2, rfl, rfl, rfl, h2, r2⟩ := trodAll_cons r1
  obtain ⟨rfl, rfl, rfl⟩ := trodAll_nil r2
  obtain rfl : args = #[v0, v1, v2] := by cases args; simp_all
  obtain ⟨rfl, rfl⟩ := trodVars_none hV
  obtain ⟨a0, rfl, rfl, rfl, w0⟩ := open_int Try.underlying3 (hval 0 3 v0 rfl rfl) h0
  obtain ⟨a1, rfl, rfl, rfl, w1⟩ := open_string Try.underlying9 (hval 1 9 v1 rfl rfl) h1
  obtain ⟨a2, rfl, rfl, rfl, w2⟩ := open_string Try.underlying9 (hval 2 9 v2 rfl rfl) h2
  clear hA0 hval0
  have b1 : a1.size ≤ 140737488351232 := by
    have := sized_string hsz (j := 1) (t := 9) rfl rfl
    rw [Lib.size_eq]; exact this
  have b2 : a2.size ≤ 140737488351232 := by
    have := sized_string hsz (j := 2) (t := 9) rfl rfl
    rw [Lib.size_eq]; exact this
  refine (walk a0 a1 a2 w0 b1 b2 W).mono fun e W' ⟨he, bel⟩ => ?_
  subst he
  exact ⟨_, rfl, _, _, _, [], _, [], hW', trodAll_mk1 (shut_bool Try.underlying4 _), (trodAll_cons_mk (shut_int Try.underlying3 w0) (trodAll_cons_mk (shut_string Try.underlying9 w1) (trodAll_cons_mk (shut_string Try.underlying9 w2) trodAll_mk0))), rfl, bel.frame _, fun h => by cases h⟩

theorem over : Rows.countedRow.holds Try.pinned (OpenSpec.ofChange Rows.countedSpec) :=
  OpenClaim.holds_of_wide 5 Try.f5 rfl rfl rfl rfl rfl rfl rfl ⟨rfl, rfl, rfl, rfl, rfl⟩ rfl rfl rfl rfl rfl (by kernel_rfl) Try.func5 (by kernel_rfl)
    (of_decide_eq_true (by kernel_rfl)) (by unfold Func.isWrapper; first | (rw [if_pos (by decide +kernel)]; kernel_rfl) | (rw [if_neg (by decide +kernel)]; exact ⟨rfl, rfl⟩))
    (fun os started H enc _ => lifted os started H enc)

/-- ████ THE STATEMENT ████ -/
theorem proved : Rows.CountedSaid :=
  over
end Go.Proofs.Ytoepcplbpochpaa.counted
namespace Go.Proofs.Ytoepcplbpochpaa
theorem counted_holds : Rows.CountedSaid := counted.proved
#print axioms counted_holds
end Go.Proofs.Ytoepcplbpochpaa
