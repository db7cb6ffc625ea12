/-
  PROVED: for every program p and every unit u, the call lodgelaw.Checks(p, u) of the landed program returns true (ir.Check and mach.Check answer just the error and the place that the document's own checks answer), and its arguments read afterwards as before. Conditions: the package-level table of the kinds of fields reads as the program's text lays it (tied by the given Tie text); the form's own.
-/
import Derived.Test.YtoepcplbpochpaaDoorIrCheck
import Derived.Test.YtoepcplbpochpaaDoorCheck
import Derived.Test.YtoepcplbpochpaaDoorCheckUnit
import Derived.Test.YtoepcplbpochpaaDoorOpen
import Derived.Test.YtoepcplbpochpaaDoorCards
import Derived.Test.YtoepcplbpochpaaDoorTie
import Derived.WalkKit
import Derived.ProofKit
import Derived.LaidMore
import Derived.OpenShut
import Derived.ChangeOld
import Derived.Below
import Derived.SizedLaws
import Derived.Stop.Joined
import Derived.SevenTiedAt
namespace Go.Proofs.YtoepcplbpochpaaDoor.checks
open Go.ChangeShapes Go.WideShapes Go.ChangeAt Go.WideMaps Go.WideElems Go.RowKit

set_option maxRecDepth 100000 in
set_option maxHeartbeats 4000000 in
theorem walk (P R V : Int) (L : List In4) (ac : Option Addr) (cc : Nat) (K S Q U : Int) (M : List In4) (am : Option Addr) (cm : Nat) (T : ByteArray) (w : World) (hH : HeldIns w ac L) (hM : HeldIns w am M) (hT : Tab w) (hw0 : 0 < w.heap.size) (hn : L.length * 32 ≤ 140737488351232) (hm : M.length * 32 ≤ 140737488351232) (hs : T.size ≤ maxLen) :
    Calls Tryd.prog 3 #[.agg #[.int .i64 P, .int .i64 R, .int .i64 V, .slice ac L.length cc], .agg #[.int .i64 K, .int .i64 S, .int .i64 Q, .int .i64 U, .slice am M.length cm, .string T]] w fun e w' => e = .returned (.bool true) ∧ Below w.heap.size w w' := by
  obtain ⟨x1, hx1⟩ : ∃ e, e = (progE P R V L).1 := ⟨_, rfl⟩
  obtain ⟨x2, hx2⟩ : ∃ e, e = (progE P R V L).2 := ⟨_, rfl⟩
  obtain ⟨y1, hy1⟩ : ∃ e, e = (unitE K S Q U M T).1 := ⟨_, rfl⟩
  obtain ⟨y2, hy2⟩ : ∃ e, e = (unitE K S Q U M T).2 := ⟨_, rfl⟩
  have C1 := hide (fun w (hH : HeldIns w ac L) (hT : Tab w) (hw0 : 0 < w.heap.size) => irCheck_any P R V L ac cc w hH (by omega) hT hw0)
  have C2 := hide (fun w (hH : HeldIns w ac L) => checkProg_any P R V L ac cc w hH (by omega))
  have C3 := hide (fun w (hH : HeldIns w am M) (hT : Tab w) (hw0 : 0 < w.heap.size) => machCheck_any K S Q U M T am cm w hH (by omega) hs hT hw0)
  have C4 := hide (fun w (hH : HeldIns w am M) => checkUnit_any K S Q U M T am cm w hH (by omega) hs)
  rw [← hx1, ← hx2] at C1 C2
  rw [← hy1, ← hy2] at C3 C4
  have HH := hide hH
  have HM := hide hM
  have HT := hide hT
  clear hx1 hx2 hy1 hy2 hH hM hT hs
  go_enter Tryd.func3, Tryd.ntmps3
  go_wp2_with fail
  obtain ⟨w1, hw1⟩ : ∃ w1, w1 = (w.alloc (.cells #[.int .i64 P, .int .i64 R, .int .i64 V, .slice ac L.length cc] 24)).alloc (.cells #[.int .i64 K, .int .i64 S, .int .i64 Q, .int .i64 U, .slice am M.length cm, .string T] 26) := ⟨_, rfl⟩
  rw [← hw1]
  have hb1 : Below w.heap.size w w1 := by rw [hw1]; exact ((Below.refl _ _).alloc (Nat.le_refl _) _).alloc (by simp) _
  have hz1 : w.heap.size + 2 ≤ w1.heap.size := by rw [hw1]; simp
  have p : ∀ i, w1.cell? ⟨w.heap.size, i, none⟩ = #[Value.int .i64 P, .int .i64 R, .int .i64 V, .slice ac L.length cc][i]? := fun i => by
    rw [hw1, World.cell?_alloc_past (hn := by simp), World.cell?_alloc_at (hn := rfl)]
  have q : ∀ i, w1.cell? ⟨w.heap.size + 1, i, none⟩ = #[Value.int .i64 K, .int .i64 S, .int .i64 Q, .int .i64 U, .slice am M.length cm, .string T][i]? := fun i => by
    rw [hw1, World.cell?_alloc_at (hn := by simp)]
  have p0 : w1.cell? ⟨w.heap.size, 0, none⟩ = some (.int .i64 P) := (p 0).trans rfl
  have p1 : w1.cell? ⟨w.heap.size, 1, none⟩ = some (.int .i64 R) := (p 1).trans rfl
  have p2 : w1.cell? ⟨w.heap.size, 2, none⟩ = some (.int .i64 V) := (p 2).trans rfl
  have p3 : w1.cell? ⟨w.heap.size, 3, none⟩ = some (.slice ac L.length cc) := (p 3).trans rfl
  have h6 : At6 w1 (w.heap.size + 1) K S Q U (.slice am M.length cm) T := ⟨(q 0).trans rfl, (q 1).trans rfl, (q 2).trans rfl, (q 3).trans rfl, (q 4).trans rfl, (q 5).trans rfl⟩
  have H6 := hide h6
  have HB1 := hide hb1
  clear hw1 p q h6 hb1
  refine (unhide C1 w1 ((unhide HH).below (unhide HB1)) ((unhide HT).below (unhide HB1) hw0) (by omega)).mono ?_
  rintro e w2 ⟨rfl, hb2⟩
  have HB2 : Hid (Below w.heap.size w w2) := (unhide HB1).trans (hb2.mono (by omega))
  have H62 := hide ((unhide H6).below hb2 (by omega))
  have q0 := (hb2.cell (p := ⟨w.heap.size, 0, none⟩) (show w.heap.size < w1.heap.size by omega)).trans p0
  have q1 := (hb2.cell (p := ⟨w.heap.size, 1, none⟩) (show w.heap.size < w1.heap.size by omega)).trans p1
  have q2 := (hb2.cell (p := ⟨w.heap.size, 2, none⟩) (show w.heap.size < w1.heap.size by omega)).trans p2
  have q3 := (hb2.cell (p := ⟨w.heap.size, 3, none⟩) (show w.heap.size < w1.heap.size by omega)).trans p3
  have hz2 : w.heap.size + 2 ≤ w2.heap.size := Nat.le_trans hz1 hb2.size
  clear hb2 p0 p1 p2 p3 H6 HB1
  go_wp2_with fail
  refine (unhide C2 w2 ((unhide HH).below (unhide HB2))).mono ?_
  rintro e w3 ⟨rfl, hb3⟩
  have HB3 : Hid (Below w.heap.size w w3) := (unhide HB2).trans (hb3.mono (by omega))
  have h63 := (unhide H62).below hb3 (by omega)
  have H63 := hide h63
  obtain ⟨r0, r1, r2, r3, r4, r5⟩ := h63
  have hz3 : w.heap.size + 2 ≤ w3.heap.size := Nat.le_trans hz2 hb3.size
  clear hb3 q0 q1 q2 q3 H62 HB2
  go_wp2_with fail
  refine (unhide C3 w3 ((unhide HM).below (unhide HB3)) ((unhide HT).below (unhide HB3) hw0) (by omega)).mono ?_
  rintro e w4 ⟨rfl, hb4⟩
  have HB4 : Hid (Below w.heap.size w w4) := (unhide HB3).trans (hb4.mono (by omega))
  obtain ⟨s0, s1, s2, s3, s4, s5⟩ := (unhide H63).below hb4 (by omega)
  have hz4 : w.heap.size + 2 ≤ w4.heap.size := Nat.le_trans hz3 hb4.size
  clear hb4 r0 r1 r2 r3 r4 r5 H63 HB3
  go_wp2_with fail
  refine (unhide C4 w4 ((unhide HM).below (unhide HB4))).mono ?_
  rintro e w5 ⟨rfl, hb5⟩
  have HB5 : Hid (Below w.heap.size w w5) := (unhide HB4).trans (hb5.mono (by omega))
  clear hb5 s0 s1 s2 s3 s4 s5
  go_wp2_with fail
  go_ret
  exact ⟨rfl, unhide HB5⟩

theorem own : ownKnob Tryd.prog.godebug = none := by kernel_rfl
theorem laidOut : laidOutB Tryd.prog = true := by kernel_rfl

/-- The door's own heap meets the condition. -/
theorem door_met (os : Os) (args : Array Value) : laidMetH Tryd.prog [("lodge/code.kinds", Rows.laid_lodge_code_kinds)] ((World.doorLaid Tryd.prog 31 os).forCall (fun _ _ => 0) ⟨#[], args, []⟩).memory :=
  laidMetH_of_parts3 (fuel := 8) (laidMet_of_run' 8 (by kernel_rfl) (by kernel_rfl)) (by kernel_rfl) (by kernel_rfl)

set_option maxRecDepth 100000 in
set_option maxHeartbeats 4000000 in
theorem lifted (os : Os) (started : os.Started) (H : Type) (enc : TypeId × Value → H) :
    ReturnsInHanded {} Tryd.checked os 3 .any (fun w args => (Rows.checksSpec.pre enc Tryd.prog Tryd.f3 [] false w args ∧ laidMetH Tryd.prog [("lodge/code.kinds", Rows.laid_lodge_code_kinds)] w) ∧ sizedMet enc Tryd.prog Tryd.f3 (OpenSpec.ofChange Rows.checksSpec) false w args)
      (Rows.checksSpec.post enc Tryd.prog Tryd.f3 false true false false) := by
  refine returnsInHanded_of_change_and (C := Tryd.checked) (X := fun w _ => laidMetH Tryd.prog [("lodge/code.kinds", Rows.laid_lodge_code_kinds)] w) (fun _ _ _ hh h => h.of_heap hh) own started (by kernel_rfl) Tryd.func3
    (ChangeSpec.witness_shaped (enc := enc) (C := Tryd.checked) (os := os) (X := fun w _ => laidMetH Tryd.prog [("lodge/code.kinds", Rows.laid_lodge_code_kinds)] w) false (World.doorLaid Tryd.prog 31 os) #[.agg #[.int .i64 0, .int .i64 0, .int .i64 0, .slice none 0 0], .agg #[.int .i64 0, .int .i64 0, .int .i64 0, .int .i64 0, .slice none 0 0, .string ByteArray.empty]] 8 rfl (World.shaped_of_RefB (by kernel_rfl) (by kernel_rfl)) (by kernel_rfl) (by kernel_rfl) (by kernel_rfl) (door_met os _)) ?_
  intro W base args ds gs before hval0 hW hcnd hsz0 hL _
  have hsz : (DataW.weightsEach Tryd.prog (Tryd.f3.params.toList ++ Rows.checksSpec.plain.varTypes Tryd.prog) (ds ++ gs)).all (· ≤ reachBytes) = true := hsz0
  have hval : ∀ (j : Nat) t v, Tryd.f3.params[j]? = some t → args[j]? = some v → Value.okWide Tryd.prog W .any base t v := hval0
  have hW' := hW
  obtain ⟨p, q, hA0, hV, rfl, hfz, hnd⟩ := hW
  have hA : DataW.TrodAll enc Tryd.prog W 0 (fun _ => true) true Tryd.f3.params.toList args.toList ds p := hA0
  rw [Tryd.params3] at hA hval hsz
  obtain ⟨v0, vs0, d0, ds0, p0, q0, hargs, rfl, rfl, h0, r0⟩ := trodAll_cons hA
  obtain ⟨v1, vs1, d1, ds1, p1, q1, rfl, rfl, rfl, h1, r1⟩ := trodAll_cons r0
  obtain ⟨rfl, rfl, rfl⟩ := trodAll_nil r1
  obtain rfl : args = #[v0, v1] := by cases args; simp_all
  obtain ⟨rfl, rfl⟩ := trodVars_none hV
  have hT := of_laid hL
  have k0 := h0
  have k1 := h1
  have lt0 : ∀ x ∈ p0, x.block < W.heap.size := by obtain ⟨m, hm⟩ := k0; exact DataW.trod_lt m _ _ _ hm
  have lt1 : ∀ x ∈ p1, x.block < W.heap.size := by obtain ⟨m, hm⟩ := k1; exact DataW.trod_lt m _ _ _ hm
  obtain ⟨cs, rfl, hcs⟩ := okWide_struct Tryd.underlying24 (hval 0 24 v0 rfl rfl)
  obtain ⟨cu, rfl, hcu⟩ := okWide_struct Tryd.underlying26 (hval 1 26 v1 rfl rfl)
  obtain ⟨P, R, V, ac, L, cc, rfl, hH, hlen⟩ : ∃ (P R V : Int) (ac : Option Addr) (L : List In4) (cc : Nat), cs = #[.int .i64 P, .int .i64 R, .int .i64 V, .slice ac L.length cc] ∧ HeldIns W ac L ∧ L.length * 32 ≤ 140737488351232 := by
    obtain ⟨fuel, hf0⟩ := h0
    have hf1 : DataW.trod enc Tryd.prog W 0 (fun _ => true) true fuel 24 cs.toList = some (d0, p0) := hf0
    obtain ⟨P, R, V, ac, L, cc, hcl, hh, hor⟩ := open_prog hf1
    refine ⟨P, R, V, ac, L, cc, Array.toList_inj.1 hcl, hh, ?_⟩
    rcases hor with rfl | ⟨y0, y1, y2, elems, rest, hx, he⟩
    · decide
    · have hx' : d0 = .agg [y0, y1, y2, .slice elems rest] := hx
      subst hx'
      rw [← he]
      exact sized_prog hsz rfl rfl
  obtain ⟨K, S, Q, U, am, M, cm, T, rfl, hM, hs, hlen2⟩ : ∃ (K S Q U : Int) (am : Option Addr) (M : List In4) (cm : Nat) (T : ByteArray), cu = #[.int .i64 K, .int .i64 S, .int .i64 Q, .int .i64 U, .slice am M.length cm, .string T] ∧ HeldIns W am M ∧ T.size ≤ maxLen ∧ M.length * 32 ≤ 140737488351232 := by
    obtain ⟨fuel, hf0⟩ := h1
    have hf1 : DataW.trod enc Tryd.prog W 0 (fun _ => true) true fuel 26 cu.toList = some (d1, p1) := hf0
    obtain ⟨K, S, Q, U, am, M, cm, T, hcl, hh, hs, hor⟩ := open_unit hf1
    refine ⟨K, S, Q, U, am, M, cm, T, Array.toList_inj.1 hcl, hh, hs, ?_⟩
    rcases hor with rfl | ⟨y0, y1, y2, y3, elems, rest, y5, hx, he⟩
    · decide
    · have hx' : d1 = .agg [y0, y1, y2, y3, .slice elems rest, y5] := hx
      subst hx'
      rw [← he]
      exact sized_unit (j := 1) hsz rfl rfl
  clear hA0 hval0
  have hW0 : 0 < W.heap.size := World.block_lt_of_cell? W ⟨0, 0 * 3 + 0, none⟩ (hT 0 0 (by decide) (by decide))
  refine (walk P R V L ac cc K S Q U M am cm T W hH hM hT hW0 hlen hlen2 hs).mono fun e W' ⟨he, bel⟩ => ?_
  subst he
  exact ⟨_, rfl, _, _, _, [], _, [], hW', trodAll_mk1 (shut_bool Tryd.underlying4 _), (trodAll_cons_mk (Below.trod laidOut (by kernel_rfl) (of_decide_eq_true (by kernel_rfl)) k0 bel lt0) (trodAll_cons_mk (Below.trod laidOut (by kernel_rfl) (of_decide_eq_true (by kernel_rfl)) k1 bel lt1) trodAll_mk0)), rfl, bel.frame _, fun h => by cases h⟩

theorem row : Rows.ChecksSaid :=
  OpenClaim.holds_of_wide 3 Tryd.f3 rfl rfl rfl rfl rfl rfl rfl ⟨rfl, rfl, rfl, rfl, rfl⟩ rfl rfl rfl rfl rfl (by kernel_rfl) Tryd.func3 (by kernel_rfl)
    (of_decide_eq_true (by kernel_rfl)) (by unfold Func.isWrapper; first | (rw [if_pos (by decide +kernel)]; kernel_rfl) | (rw [if_neg (by decide +kernel)]; exact ⟨rfl, rfl⟩))
    (fun os started H enc _ => lifted os started H enc)

theorem card : Rows.ChecksCardSaid :=
  Claim7.holds_tied_plain_at .later [] [.data] true (true, "f9a29037940c574d6341b0499574fd24eaec2641ee81379986cf360f2307c55f") false
    row (fun _ h => by cases h) (by kernel_rfl) (fun _ h => by cases h) checks_row_tie rfl ⟨rfl, rfl⟩ (by kernel_rfl) rfl
    (fun f fn hf hfn => by
      obtain rfl : f = 3 := Option.some.inj ((show Tryd.prog.funcNamed "lodge/lodgelaw.Checks" = some 3 by kernel_rfl).symm.trans hf) |>.symm
      obtain rfl : fn = Tryd.f3 := (Option.some.inj (Tryd.func3.symm.trans hfn)).symm
      exact ⟨by kernel_rfl, fun j t ht => by
        rw [Tryd.params3] at ht
        have hm : t ∈ [24, 26] := by simpa using Array.mem_of_getElem? ht
        have hall : ([24, 26].all fun u => !Tryd.prog.wantsStandIn u) = true := by kernel_rfl
        exact (show Tryd.prog.wantsStandIn t = false by simpa using List.all_eq_true.1 hall t hm)⟩)
    (by kernel_rfl)
end Go.Proofs.YtoepcplbpochpaaDoor.checks
namespace Go.Proofs.YtoepcplbpochpaaDoor
theorem checks_holds : Rows.ChecksCardSaid := checks.card
#print axioms checks_holds
end Go.Proofs.YtoepcplbpochpaaDoor
