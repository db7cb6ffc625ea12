/-
  Plain mathematics: how many Loads and Stores are in the unit's code.
-/
import Derived.Test.YtoepcplbpochpabDoorPart17
import Derived.Test.YtoepcplbpochpabDoorPart24
import Derived.Test.YtoepcplbpochpabDoorPart12
import Derived.Deep.Slices
import Derived.ProofKit
import Derived.LaidMore
import Derived.OpenShut
import Derived.Stop.Joined
import Derived.SizedLaws
import Derived.Test.YtoepcplbpochpabDoorPart21

namespace Go.Proofs.YtoepcplbpochpabDoor
open Go.RowKit

/-- How many instructions have this Op. -/
def cntO (o : Int) : List In4 → Nat
  | [] => 0
  | x :: l => (if x.op = o then 1 else 0) + cntO o l
theorem cntO_app (o : Int) : ∀ a b : List In4, cntO o (a ++ b) = cntO o a + cntO o b
  | [], b => by rw [List.nil_append]; show _ = 0 + _; omega
  | x :: a, b => by show (if x.op = o then 1 else 0) + cntO o (a ++ b) = (if x.op = o then 1 else 0) + cntO o a + _; rw [cntO_app o a b]; omega
theorem cntO_len (o : Int) : ∀ a : List In4, cntO o a ≤ a.length
  | [] => Nat.le_refl _
  | x :: a => by
    have := cntO_len o a
    show (if x.op = o then 1 else 0) + cntO o a ≤ a.length + 1
    split <;> omega
theorem cntO_map (o : Int) (st : Nat → Nat) : ∀ a : List In4, cntO o (a.map (tgt st)) = cntO o a
  | [] => rfl
  | x :: a => by
    show (if (tgt st x).op = o then 1 else 0) + cntO o (a.map (tgt st)) = (if x.op = o then 1 else 0) + cntO o a
    rw [tgt_op, cntO_map o st a]
theorem cntO_zero {o : Int} : ∀ {a : List In4}, cntO o a = 0 → ∀ i, i < a.length → (inAt a i).op ≠ o
  | [], _, i, h => absurd h (Nat.not_lt_zero _)
  | x :: a, h, 0, _ => fun e => by
    have h' : (if x.op = o then 1 else 0) + cntO o a = 0 := h
    have e' : x.op = o := e
    rw [if_pos e'] at h'; omega
  | x :: a, h, i + 1, hi => by
    have h' : (if x.op = o then 1 else 0) + cntO o a = 0 := h
    exact cntO_zero (a := a) (by omega) i (Nat.lt_of_succ_lt_succ hi)
theorem cntO_take (o : Int) : ∀ (a : List In4) (k : Nat), k < a.length → cntO o (a.take (k + 1)) = cntO o (a.take k) + if (inAt a k).op = o then 1 else 0
  | [], k, h => absurd h (Nat.not_lt_zero _)
  | x :: a, 0, _ => by
    show (if x.op = o then 1 else 0) + cntO o (a.take 0) = 0 + if x.op = o then 1 else 0
    rw [List.take_zero]; show _ + 0 = _; omega
  | x :: a, k + 1, h => by
    show (if x.op = o then 1 else 0) + cntO o (a.take (k + 1)) = (if x.op = o then 1 else 0) + cntO o (a.take k) + if (inAt a k).op = o then 1 else 0
    rw [cntO_take o a k (Nat.lt_of_succ_lt_succ h)]; omega
theorem cntO_take_le (o : Int) (a : List In4) (k : Nat) : cntO o (a.take k) ≤ cntO o a := by
  have := cntO_app o (a.take k) (a.drop k)
  rw [List.take_append_drop] at this
  omega
/-- Colours are few. -/
theorem cnt_few (L : List In4) (R : Nat) (hR : R ≤ 12) : cntTo (colB L R) R ≤ R := by
  have key : ∀ k, k ≤ R → cntTo (colB L R) k ≤ k := fun k => by
    induction k with
    | zero => exact fun _ => Nat.le_refl _
    | succ k ih =>
      intro hk
      have h1 := ih (by omega)
      have h2 := (colTo_le (hitB L R) R hR k (by omega)).1
      unfold cntTo
      split
      · unfold colB; omega
      · omega
  exact key R (Nat.le_refl _)
theorem no_slot {L : List In4} {R K : Nat} (h : cntTo (colB L R) R ≤ K) (r : Nat) : homS L R K r = false := by
  unfold homS keptB
  rw [if_neg (by omega)]
  by_cases hr : r < R
  · have := cnt_gt (colB L R) R r hr
    rw [show decide (K ≤ colB L R r) = false by rw [decide_eq_false_iff_not]; omega, Bool.and_false]
  · rw [show decide (r < R) = false by rw [decide_eq_false_iff_not]; exact hr, Bool.false_and]
theorem insC_free {hs : Nat → Bool} {ha : Nat → Nat} {K : Nat} (h : ∀ r, hs r = false) {x : In4} {o : Int} (ho : o = 15 ∨ o = 16) : cntO o (insC hs ha K x) = 0 := by
  have one : ∀ y : In4, y.op ≤ 11 → cntO o [y] = 0 := fun y hy => by show (if y.op = o then 1 else 0) + 0 = 0; rw [if_neg (by omega)]
  have f0 : ∀ r n, fetC hs ha K r n = [] := fun r n => by unfold fetC; rw [h r, if_neg (by decide)]
  have k0 : ∀ r, keepC hs ha K r = [] := fun r => by unfold keepC; rw [h r, if_neg (by decide)]
  unfold insC
  split
  · rw [k0, List.append_nil]; exact one _ (show (0 : Int) ≤ 11 by decide)
  split
  · unfold copyC; rw [h, if_neg (by decide), h, if_neg (by decide)]; exact one _ (show (1 : Int) ≤ 11 by decide)
  split
  · rename_i h3
    rw [f0, f0, k0, List.nil_append, List.nil_append, List.append_nil]; exact one _ (by show x.op ≤ 11; omega)
  split
  · rw [f0, List.nil_append]; exact one _ (show (8 : Int) ≤ 11 by decide)
  split
  · rename_i h3
    rw [f0, List.nil_append]; exact one _ (by show x.op ≤ 11; omega)
  split
  · rename_i h3
    exact one _ (by show x.op ≤ 11; omega)
  · rfl
theorem load_no_store (hs : Nat → Bool) (ha : Nat → Nat) (s : Nat → Bool) : ∀ k, cntO 16 (loadC hs ha s k) = 0
  | 0 => rfl
  | k + 1 => by
    show cntO 16 (loadC hs ha s k ++ if (s k && !hs k) = true then [⟨15, ha k, k, 0⟩] else []) = 0
    rw [cntO_app, load_no_store hs ha s k]
    split <;> rfl
theorem wTo_free {hs : Nat → Bool} {ha : Nat → Nat} {K : Nat} (h : ∀ r, hs r = false) (s : Nat → Bool) (P : Nat) (L : List In4) : ∀ i, cntO 16 (wTo hs ha K s P L i) = 0 ∧ cntO 15 (wTo hs ha K s P L i) ≤ P
  | 0 => ⟨load_no_store hs ha s P, Nat.le_trans (cntO_len 15 (loadC hs ha s P)) (loadC_len hs ha s P)⟩
  | i + 1 => by
    obtain ⟨h1, h2⟩ := wTo_free (ha := ha) (K := K) h s P L i
    show cntO 16 (wTo hs ha K s P L i ++ insC hs ha K (inAt L i)) = 0 ∧ cntO 15 (wTo hs ha K s P L i ++ insC hs ha K (inAt L i)) ≤ P
    rw [cntO_app, cntO_app, insC_free h (.inl rfl), insC_free h (.inr rfl)]
    exact ⟨by omega, by omega⟩
/-- With registers enough there is no Store, and no Load but of args. -/
theorem cmp_free {P R K : Nat} {L : List In4} (h : cntTo (colB L R) R ≤ K) : cntO 16 (cmpC P R K L) = 0 ∧ cntO 15 (cmpC P R K L) ≤ P := by
  unfold cmpC codeB
  rw [cntO_map, cntO_map]
  exact wTo_free (no_slot h) _ _ _ _
end Go.Proofs.YtoepcplbpochpabDoor

/-
  The walk through lodgekeep.Roomy.
-/
namespace Go.Proofs.YtoepcplbpochpabDoor
open Go.RowKit

theorem code_some {P R V K : Nat} {L : List In4} (hp : RightP P R V L) : 0 < (cmpC P R K L).length := by
  rw [cmpC_len]
  have := st_lt (hs := homS L R K) (ha := homA L R K) (K := K) (s := liveB L 0) (P := P) hp.n1 hp.last (i := 0) (by have := hp.n1; omega)
  unfold cmpQ; omega

set_option maxRecDepth 100000 in
set_option maxHeartbeats 8000000 in
theorem roomy_walk (P0 R0 V0 : Int) (L0 : List In4) (ac : Option Addr) (cc : Nat) (k : Int) (w : World) (hH : HeldIns w ac L0) (hv : RngI L0) (hP0 : Rng P0) (hR0 : Rng R0) (hV0 : Rng V0) (hl : L0.length ≤ 9223372036854775807) (hcc : L0.length ≤ cc)
    (hk : Rng k) (hT : Tab w) (hw0 : 0 < w.heap.size) :
    Calls Tryd.prog 5 #[.agg #[.int .i64 P0, .int .i64 R0, .int .i64 V0, .slice ac L0.length cc], .int .i64 k] w fun e w' => e = .returned (.bool true) ∧ Below w.heap.size w w' := by
  have KP := hide (fun (c n : Int) (w : World) (h : Rng c) (hn : 0 < n) => pick_any c n w h.1 h.2 hn)
  obtain ⟨w1, hw1, HP1, HL1, hz1⟩ := box_prog w P0 R0 V0 (.slice ac L0.length cc)
  have HW := hide hw1
  have KR := hide (right_any P0 R0 V0 L0 ac cc 40 12 w1 (hH.below' (unhide HL1)) hv hP0 hR0 hV0 hl hcc (by omega) (by omega) (by omega) (by omega))
  have HT := hide hT
  clear hw1 hH hT
  go_enter Tryd.func5, Tryd.ntmps5
  go_upto_region 1 with fail
  rw [← unhide HW]
  have p0 := (unhide HP1).c0
  have p1 := (unhide HP1).c1
  have p2 := (unhide HP1).c2
  have p3 := (unhide HP1).c3
  go_wp2_with fail
  refine (unhide KR).mono ?_
  rintro _ w2 ⟨P, R, V, L, ao, cap, rfl, hp, hR12, hL40, hown, hb2⟩
  clear p0 p1 p2 p3 KR HP1 HW
  have hz2 := hb2.size
  obtain ⟨w3, hw3, HP3, HL3', hz3⟩ := box_prog w2 P R V (.slice ao L.length cap)
  have HL3 : Hid (Below w.heap.size w w3) := ((unhide HL1).trans (hb2.mono (by omega))).trans ((unhide HL3').mono (by omega))
  have HC3 : Hid (HeldIns w3 ao L) := (held_own hown).below' (unhide HL3')
  have HW3 := hide hw3
  clear hw3 hb2 hown HL1 HL3'
  go_upto_region 2 with fail
  rw [← unhide HW3]
  have q1 := (unhide HP3).c1
  obtain ⟨m, hme⟩ : ∃ m : Nat, m = if R < 2 then 2 else R := ⟨_, rfl⟩
  have hm : 2 ≤ m ∧ m ≤ 12 ∧ R ≤ m := by rw [hme]; split <;> omega
  have HME := hide hme
  clear hme
  go_upto_if 16 with fail
  go_cut [6] from 16 to 16 (fun v wc => v = .int .i64 m ∧ wc = w3)
  case first =>
    by_cases c : R < 2
    · have c1 : (R : Int) < 2 := by omega
      have e : m = 2 := by rw [unhide HME, if_pos c]
      have HC := hide c
      clear c
      go_wp2_with fail
      go_meet
      case rel => exact ⟨by rw [e]; rfl, rfl⟩
    · have c1 : ¬ (R : Int) < 2 := by omega
      have e : m = R := by rw [unhide HME, if_neg c]
      have HC := hide c
      clear c
      go_wp2_with fail
      go_meet
      case rel => exact ⟨by rw [e], rfl⟩
  case rest =>
  obtain ⟨rfl, rfl⟩ := hcut
  clear q1
  have bK := pick_lt k (16 - (m : Int) + 1) (by omega)
  obtain ⟨K, hKe⟩ : ∃ K : Nat, (K : Int) = (m : Int) + pickI k (16 - (m : Int) + 1) := ⟨((m : Int) + pickI k (16 - (m : Int) + 1)).toNat, by omega⟩
  have hK : 2 ≤ K := by omega
  have hK' : K ≤ 16 := by omega
  have hRK : R ≤ K := by omega
  have ww : IntKind.i64.wrap (16 - (m : Int)) = 16 - (m : Int) := by rw [IntKind.wrap_i64]; omega
  have ww' : IntKind.i64.wrap (16 - (m : Int) + 1) = 16 - (m : Int) + 1 := by rw [IntKind.wrap_i64]; omega
  have wk : IntKind.i64.wrap ((m : Int) + pickI k (16 - (m : Int) + 1)) = (m : Int) + pickI k (16 - (m : Int) + 1) := by rw [IntKind.wrap_i64]; omega
  have HKE := hide hKe
  clear hKe
  go_wp2_with fail
  refine (unhide KP k (16 - (m : Int) + 1) _ hk (by omega)).mono ?_
  rintro _ w4 ⟨rfl, hw4⟩
  rw [hw4]
  clear hw4
  have q0 := (unhide HP3).c0
  have q1 := (unhide HP3).c1
  have q2 := (unhide HP3).c2
  have q3 := (unhide HP3).c3
  go_wp2_with fail
  rw [← unhide HKE]
  refine (compile_right P R V K L ao cap wc (unhide HC3) ((unhide HT).below (unhide HL3) hw0) (by omega) (by rw [prog_zero hp]) hK hK').mono ?_
  rintro _ w5 ⟨uo, uc, rfl, hown5, hb5⟩
  have hfree := cmp_free (P := P) (K := K) (L := L) (R := R) (Nat.le_trans (cnt_few L R (by have := hp.r12; omega)) hRK)
  have hsome := code_some (K := K) hp
  obtain ⟨w7, hw7, HU7, HL7', hz7⟩ := box_unit w5 K (slotsB L P R K) P V (.slice uo (cmpC P R K L).length uc) (encT (cmpR P R V K L))
  have HC7 : Hid (HeldIns w7 uo (cmpC P R K L)) := (held_own hown5).below' (unhide HL7')
  have hb37 : Below wc.heap.size wc w7 := hb5.trans ((unhide HL7').mono hb5.size)
  have HP7 := hide ((unhide HP3).keep (Keep.of_below hb37 (fun _ => False)) (fun h => h))
  have HL7 : Hid (Below w.heap.size w w7) := (unhide HL3).trans (hb37.mono (unhide HL3).size)
  have HW7 := hide hw7
  have hCl : (cmpC P R K L).length ≤ 1000 := by
    rw [cmpC_len]
    have := wTo_len (homS L R K) (homA L R K) K (liveB L 0) P L L.length
    have := hp.p4
    have := hp.n40
    unfold cmpQ; omega
  clear hw7 hb5 hb37 hown5 HP3 HC3 HL3 HL7' q0 q1 q2 q3 HW3
  obtain ⟨S, hS⟩ : ∃ S, S = slotsB L P R K := ⟨_, rfl⟩
  obtain ⟨C, hC⟩ : ∃ C, C = cmpC P R K L := ⟨_, rfl⟩
  obtain ⟨T, hTe⟩ : ∃ T, T = encT (cmpR P R V K L) := ⟨_, rfl⟩
  rw [← hS, ← hC, ← hTe] at HU7 HW7
  rw [← hC] at HC7 hfree hsome hCl
  rw [← hS, ← hC, ← hTe]
  have hp4 : P ≤ 4 := by have := hp.p4; omega
  clear hS hC hTe hp
  go_upto_region 7 with fail
  rw [← unhide HW7]
  have u0 := (unhide HU7).c0
  have u4 := (unhide HU7).c4
  have q0 := (unhide HP7).c0
  obtain ⟨hf16, hf15⟩ := hfree
  have HF16 := hide hf16
  clear hf16 HW7
  go_wp2_with fail
  go_loopw [9, 10] (fun v9 v10 wr => ∃ j : Nat, j ≤ C.length ∧ v10 = .int .i64 j ∧ v9 = .int .i64 (cntO 15 (C.take j) : Nat) ∧ wr = w7) (fun _ v10 _ => C.length - (intOf v10).toNat)
  case atStart => exact ⟨0, Nat.zero_le _, rfl, rfl, rfl⟩
  case round =>
    obtain ⟨j, hj, rfl, rfl, rfl⟩ := hrel
    by_cases hlt : j < C.length
    case neg =>
      obtain rfl : j = C.length := by omega
      have h1 : cntO 15 (C.take C.length) ≤ P := Nat.le_trans (cntO_take_le 15 C C.length) hf15
      obtain ⟨z, hz⟩ : ∃ z, z = cntO 15 (C.take C.length) := ⟨_, rfl⟩
      rw [← hz] at h1
      rw [← hz]
      have h2 : (z : Int) ≤ (P : Int) := by omega
      have h3 : 0 < (C.length : Int) := by omega
      clear hz
      go_wp2_with fail
      go_returns
      exact ⟨rfl, unhide HL7⟩
    obtain ⟨b, off, rfl, hb, hI⟩ : ∃ b off, uo = some ⟨b, off, none⟩ ∧ b < wr.heap.size ∧ LieI wr b off C := by
      rcases unhide HC7 with h | h
      · rw [h] at hlt; exact absurd hlt (Nat.not_lt_zero _)
      · exact h
    have c0 := (hI j hlt).1
    have hne := cntO_zero (unhide HF16) j hlt
    have HT15 := hide (cntO_take 15 C j hlt)
    have hcn := Nat.le_trans (cntO_take_le 15 C j) hf15
    obtain ⟨o, ho⟩ : ∃ o, o = (inAt C j).op := ⟨_, rfl⟩
    rw [← ho] at c0 hne HT15
    have n16 : (o == 16) = false := by rw [beq_eq_false_iff_ne]; exact hne
    have j0 : (0 : Int) ≤ (j : Int) := by omega
    have j1 : (j : Int) < (C.length : Int) := by omega
    obtain ⟨z, hz⟩ : ∃ z, z = cntO 15 (C.take j) := ⟨_, rfl⟩
    rw [← hz] at HT15 hcn
    rw [← hz]
    have hP4 : z ≤ 40 := by omega
    clear ho hI hne hz
    by_cases h15 : o = 15
    · subst h15
      rw [if_pos rfl] at HT15
      go_wp2_with fail
      go_roundw
      case rel => exact ⟨j + 1, by omega, by go_num, by rw [unhide HT15]; go_num, by first | rfl | trivial⟩
      case measure => simp [intOf]; omega
    · have n15 : (o == 15) = false := by rw [beq_eq_false_iff_ne]; exact h15
      rw [if_neg h15, Nat.add_zero] at HT15
      clear h15
      go_wp2_with fail
      go_roundw
      case rel => exact ⟨j + 1, by omega, by go_num, by first | (rw [unhide HT15]; done) | (rw [unhide HT15]; rfl) | (rw [unhide HT15]; simp), by first | rfl | trivial⟩
      case measure => simp [intOf]; omega
end Go.Proofs.YtoepcplbpochpabDoor

/-
  What came in, opened: a program's code, a list of numbers; and the table that the program's text lays.
-/
namespace Go.Proofs.YtoepcplbpochpabDoor
open Go.ChangeShapes Go.WideShapes Go.ChangeAt Go.RowKit Go.Deep

theorem Tryd.cells31 : Tryd.prog.cellsOf 31 = 4 := by kernel_rfl
theorem Tryd.cells3 : Tryd.prog.cellsOf 3 = 1 := by kernel_rfl
theorem Tryd.cells22 : Tryd.prog.cellsOf 22 = 1 := by kernel_rfl
theorem Tryd.cells24 : Tryd.prog.cellsOf 24 = 4 := by kernel_rfl
theorem Tryd.cells156 : Tryd.prog.cellsOf 156 = 3 := by kernel_rfl

set_option maxRecDepth 100000 in
theorem open_code {H : Type} {enc : TypeId × Value → H} {w : World} {base : Nat} {spare : Nat → Bool} {held : Bool} {fuel : Nat} {cs : List Value} {x : DataW H × List MemPlace}
    (h : DataW.trod enc Tryd.prog w base spare held fuel 22 cs = some x) :
    cs = [.slice none 0 0] ∨ ∃ (a : Addr) (len cap : Nat) (L : List In4) (elems rest : List (DataW H)), cs = [.slice (some a) len cap] ∧ L.length = len ∧ x.1 = .slice elems rest ∧ elems.length = len ∧ HeldIns w (some a) L := by
  rcases open_slice Tryd.underlying22 h with ⟨h0, _⟩ | ⟨a, len, cap, m, n, D, Pl, rfl, hb, hl, hm, hmm, rfl, hx⟩
  · exact .inl h0
  right
  have hlm : len ≤ m := by rw [hmm]; split <;> omega
  have each : ∀ i, i < len → ∃ r : In4, w.cell? (a.add (i * 4)) = some (.int .i64 r.op) ∧ w.cell? (a.add (i * 4 + 1)) = some (.int .i64 r.d) ∧ w.cell? (a.add (i * 4 + 2)) = some (.int .i64 r.a) ∧ w.cell? (a.add (i * 4 + 3)) = some (.int .i64 r.b) := by
    intro i hi
    obtain ⟨cs', h1, h2⟩ := hx i (by omega)
    rw [Tryd.cells31] at h1
    obtain ⟨_, hlen, hcell⟩ := World.cells?_some h1
    obtain ⟨xs, k, hk, hxy, _, hxl, hf⟩ := DataW.trod_struct Tryd.underlying31 h2
    match xs, hxl, cs', hlen with
    | [y0, y1, y2, y3], _, [v0, v1, v2, v3], _ =>
      have g0 := hf 0 _ rfl
      have g1 := hf 1 _ rfl
      have g2 := hf 2 _ rfl
      have g3 := hf 3 _ rfl
      simp [Tryd.cells3] at g0 g1 g2 g3
      obtain ⟨z0, e0, _, _⟩ := DataW.trod_int Tryd.underlying3 g0
      obtain ⟨z1, e1, _, _⟩ := DataW.trod_int Tryd.underlying3 g1
      obtain ⟨z2, e2, _, _⟩ := DataW.trod_int Tryd.underlying3 g2
      obtain ⟨z3, e3, _, _⟩ := DataW.trod_int Tryd.underlying3 g3
      simp only [List.cons.injEq, and_true] at e0 e1 e2 e3
      subst e0 e1 e2 e3
      have c0 := hcell 0 (by omega)
      have c1 := hcell 1 (by omega)
      have c2 := hcell 2 (by omega)
      have c3 := hcell 3 (by omega)
      rw [add_add] at c0 c1 c2 c3
      exact ⟨⟨z0, z1, z2, z3⟩, by simpa using c0, by simpa using c1, by simpa using c2, by simpa using c3⟩
  have inh : Inhabited In4 := ⟨⟨0, 0, 0, 0⟩⟩
  obtain ⟨q, hq⟩ := choose_lt each
  have e : ∀ i, i < len → inAt ((List.range len).map q) i = q i := fun i hi => by unfold inAt; simp [hi]
  refine ⟨a, len, cap, (List.range len).map q, _, _, rfl, by simp, rfl, by simp, ?_⟩
  by_cases h0 : len = 0
  · exact .inl (by rw [h0]; rfl)
  obtain ⟨b, off, spot⟩ := a
  have hc := (hq 0 (by omega)).1
  have hspot : spot = none := by simpa [Addr.add] using World.cell?_spot hc
  subst hspot
  have hadd : ∀ j, (⟨b, off, none⟩ : Addr).add j = ⟨b, off + j, none⟩ := fun j => by unfold Addr.add; split <;> simp_all
  refine .inr ⟨b, off, rfl, ?_, fun i hi => ?_⟩
  · rw [hadd] at hc; exact World.block_lt_of_cell? w _ hc
  · rw [List.length_map, List.length_range] at hi
    obtain ⟨k0, k1, k2, k3⟩ := hq i hi
    rw [hadd] at k0 k1 k2 k3
    rw [e i hi]
    exact ⟨k0, k1, k2, k3⟩

set_option maxRecDepth 100000 in
theorem open_nums {H : Type} {enc : TypeId × Value → H} {w : World} {base : Nat} {spare : Nat → Bool} {held : Bool} {fuel : Nat} {cs : List Value} {x : DataW H × List MemPlace}
    (h : DataW.trod enc Tryd.prog w base spare held fuel 25 cs = some x) :
    cs = [.slice none 0 0] ∨ ∃ (a : Addr) (len cap : Nat) (L : List Int) (elems rest : List (DataW H)), cs = [.slice (some a) len cap] ∧ L.length = len ∧ x.1 = .slice elems rest ∧ elems.length = len ∧ HeldI w (some a) L := by
  rcases open_slice Tryd.underlying25 h with ⟨h0, _⟩ | ⟨a, len, cap, m, n, D, Pl, rfl, hb, hl, hm, hmm, rfl, hx⟩
  · exact .inl h0
  right
  have hlm : len ≤ m := by rw [hmm]; split <;> omega
  have each : ∀ i, i < len → ∃ r : Int, w.cell? (a.add i) = some (.int .i64 r) := by
    intro i hi
    obtain ⟨cs', h1, h2⟩ := hx i (by omega)
    rw [Tryd.cells3] at h1
    obtain ⟨_, hlen, hcell⟩ := World.cells?_some h1
    match cs', hlen with
    | [v0], _ =>
      obtain ⟨z0, e0, _, _⟩ := DataW.trod_int Tryd.underlying3 h2
      simp only [List.cons.injEq, and_true] at e0
      subst e0
      have c0 := hcell 0 (by omega)
      rw [add_add] at c0
      exact ⟨z0, by simpa using c0⟩
  have inh : Inhabited Int := ⟨0⟩
  obtain ⟨q, hq⟩ := choose_lt each
  have e : ∀ i, i < len → nth ((List.range len).map q) i = q i := fun i hi => by unfold nth; simp [hi]
  refine ⟨a, len, cap, (List.range len).map q, _, _, rfl, by simp, rfl, by simp, ?_⟩
  by_cases h0 : len = 0
  · exact .inl (by rw [h0]; rfl)
  obtain ⟨b, off, spot⟩ := a
  have hc := hq 0 (by omega)
  have hspot : spot = none := by simpa [Addr.add] using World.cell?_spot hc
  subst hspot
  have hadd : ∀ j, (⟨b, off, none⟩ : Addr).add j = ⟨b, off + j, none⟩ := fun j => by unfold Addr.add; split <;> simp_all
  refine .inr ⟨b, off, rfl, ?_, fun i hi => ?_⟩
  · rw [hadd] at hc; exact World.block_lt_of_cell? w _ hc
  · rw [List.length_map, List.length_range] at hi
    have k0 := hq i hi
    rw [hadd] at k0
    rw [e i hi]
    exact k0

set_option maxRecDepth 100000 in
theorem open_prog {H : Type} {enc : TypeId × Value → H} {w : World} {base : Nat} {spare : Nat → Bool} {held : Bool} {fuel : Nat} {cl : List Value} {x : DataW H × List MemPlace}
    (h : DataW.trod enc Tryd.prog w base spare held fuel 24 cl = some x) :
    ∃ (P R V : Int) (ac : Option Addr) (L : List In4) (cc : Nat), cl = [.int .i64 P, .int .i64 R, .int .i64 V, .slice ac L.length cc] ∧ HeldIns w ac L ∧ (L = [] ∨ ∃ y0 y1 y2 elems rest, x.1 = .agg [y0, y1, y2, .slice elems rest] ∧ elems.length = L.length) := by
  obtain ⟨xs, n, _, hxy, hl, hxl, hf⟩ := DataW.trod_struct Tryd.underlying24 h
  rw [Tryd.cells24] at hl
  match xs, hxl, cl, hl with
  | [y0, y1, y2, y3], _, [c0, c1, c2, c3], _ =>
    have g0 := hf 0 _ rfl
    have g1 := hf 1 _ rfl
    have g2 := hf 2 _ rfl
    have g3 := hf 3 _ rfl
    simp [Tryd.cells3, Tryd.cells22] at g0 g1 g2 g3
    obtain ⟨z0, e0, _, _⟩ := DataW.trod_int Tryd.underlying3 g0
    obtain ⟨z1, e1, _, _⟩ := DataW.trod_int Tryd.underlying3 g1
    obtain ⟨z2, e2, _, _⟩ := DataW.trod_int Tryd.underlying3 g2
    simp only [List.cons.injEq, and_true] at e0 e1 e2
    subst e0 e1 e2
    rcases open_code g3 with hc | ⟨a, l, c, L, elems, rest, hc, hR, hx, he, hh⟩
    · simp only [List.cons.injEq, and_true] at hc
      subst hc
      exact ⟨z0, z1, z2, none, [], 0, rfl, .inl rfl, .inl rfl⟩
    · simp only [List.cons.injEq, and_true] at hc
      subst hc
      refine ⟨z0, z1, z2, some a, L, c, by rw [hR], hh, .inr ⟨y0.1, y1.1, y2.1, elems, rest, ?_, by rw [he, hR]⟩⟩
      rw [hxy, ← hx]
      rfl
theorem sized_prog {H : Type} {ts : List TypeId} {ds : List (DataW H)} {y0 y1 y2 : DataW H} {elems rest : List (DataW H)} (h : (DataW.weightsEach Tryd.prog ts ds).all (· ≤ reachBytes) = true) (ht : ts[0]? = some 24) (hd : ds[0]? = some (.agg [y0, y1, y2, .slice elems rest])) : elems.length * 32 ≤ 140737488351232 := by
  have hm : (elems.length + rest.length) * Tryd.prog.bytesOf 31 ∈ (DataW.agg [y0, y1, y2, .slice elems rest] : DataW H).weights Tryd.prog 24 := by
    simp [DataW.weights, Tryd.underlying24, DataW.weightsEach, Tryd.underlying22]
  have := List.all_eq_true.1 h _ (DataW.weights_mem_each ht hd _ hm)
  rw [show Tryd.prog.bytesOf 31 = 32 by kernel_rfl] at this
  unfold reachBytes at this
  simp at this
  omega

theorem Tryd.cells9 : Tryd.prog.cellsOf 9 = 1 := by kernel_rfl
theorem Tryd.cells33 : Tryd.prog.cellsOf 33 = 6 := by kernel_rfl
set_option maxRecDepth 100000 in
theorem open_unit {H : Type} {enc : TypeId × Value → H} {w : World} {base : Nat} {spare : Nat → Bool} {held : Bool} {fuel : Nat} {cl : List Value} {x : DataW H × List MemPlace}
    (h : DataW.trod enc Tryd.prog w base spare held fuel 33 cl = some x) :
    ∃ (K S P V : Int) (ac : Option Addr) (L : List In4) (cc : Nat) (T : ByteArray), cl = [.int .i64 K, .int .i64 S, .int .i64 P, .int .i64 V, .slice ac L.length cc, .string T] ∧ HeldIns w ac L ∧ T.size ≤ maxLen ∧ (L = [] ∨ ∃ y0 y1 y2 y3 elems rest y5, x.1 = .agg [y0, y1, y2, y3, .slice elems rest, y5] ∧ elems.length = L.length) := by
  obtain ⟨xs, n, _, hxy, hl, hxl, hf⟩ := DataW.trod_struct Tryd.underlying33 h
  rw [Tryd.cells33] at hl
  match xs, hxl, cl, hl with
  | [y0, y1, y2, y3, y4, y5], _, [c0, c1, c2, c3, c4, c5], _ =>
    have g0 := hf 0 _ rfl
    have g1 := hf 1 _ rfl
    have g2 := hf 2 _ rfl
    have g3 := hf 3 _ rfl
    have g4 := hf 4 _ rfl
    have g5 := hf 5 _ rfl
    simp [Tryd.cells3, Tryd.cells22, Tryd.cells9] at g0 g1 g2 g3 g4 g5
    obtain ⟨z0, e0, _, _⟩ := DataW.trod_int Tryd.underlying3 g0
    obtain ⟨z1, e1, _, _⟩ := DataW.trod_int Tryd.underlying3 g1
    obtain ⟨z2, e2, _, _⟩ := DataW.trod_int Tryd.underlying3 g2
    obtain ⟨z3, e3, _, _⟩ := DataW.trod_int Tryd.underlying3 g3
    obtain ⟨T, e5, _, hT⟩ := DataW.trod_string Tryd.underlying9 g5
    simp only [List.cons.injEq, and_true] at e0 e1 e2 e3 e5
    subst e0 e1 e2 e3 e5
    rcases open_code g4 with hc | ⟨a, l, c, L, elems, rest, hc, hR, hx, he, hh⟩
    · simp only [List.cons.injEq, and_true] at hc
      subst hc
      exact ⟨z0, z1, z2, z3, none, [], 0, T, rfl, .inl rfl, hT, .inl rfl⟩
    · simp only [List.cons.injEq, and_true] at hc
      subst hc
      refine ⟨z0, z1, z2, z3, some a, L, c, T, by rw [hR], hh, hT, .inr ⟨y0.1, y1.1, y2.1, y3.1, elems, rest, y5.1, ?_, by rw [he, hR]⟩⟩
      rw [hxy, ← hx]
      rfl
theorem sized_unit {H : Type} {ts : List TypeId} {ds : List (DataW H)} {y0 y1 y2 y3 y5 : DataW H} {elems rest : List (DataW H)} {j : Nat} (h : (DataW.weightsEach Tryd.prog ts ds).all (· ≤ reachBytes) = true) (ht : ts[j]? = some 33) (hd : ds[j]? = some (.agg [y0, y1, y2, y3, .slice elems rest, y5])) : elems.length * 32 ≤ 140737488351232 := by
  have hm : (elems.length + rest.length) * Tryd.prog.bytesOf 31 ∈ (DataW.agg [y0, y1, y2, y3, .slice elems rest, y5] : DataW H).weights Tryd.prog 33 := by
    simp [DataW.weights, Tryd.underlying33, DataW.weightsEach, Tryd.underlying22]
  have := List.all_eq_true.1 h _ (DataW.weights_mem_each ht hd _ hm)
  rw [show Tryd.prog.bytesOf 31 = 32 by kernel_rfl] at this
  unfold reachBytes at this
  simp at this
  omega

theorem gKinds : Tryd.prog.globalNamed "lodge/code.kinds" = some 0 := by kernel_rfl
theorem tKinds : (Tryd.prog.globals[0]?).map (·.type) = some 157 := by kernel_rfl
theorem laid_kinds {H : Type} : (Rows.laid_lodge_code_kinds : DataW H) = .agg (kindL.map fun r => .agg (r.map fun k => .lit (.int .i64 k))) := rfl
theorem kind_row (o j : Nat) (ho : o < 17) (hj : j < 3) : ∃ r, kindL[o]? = some r ∧ r[j]? = some (kindAt o j) := by
  rcases (show o = 0 ∨ o = 1 ∨ o = 2 ∨ o = 3 ∨ o = 4 ∨ o = 5 ∨ o = 6 ∨ o = 7 ∨ o = 8 ∨ o = 9 ∨ o = 10 ∨ o = 11 ∨ o = 12 ∨ o = 13 ∨ o = 14 ∨ o = 15 ∨ o = 16 by omega) with rfl | rfl | rfl | rfl | rfl | rfl | rfl | rfl | rfl | rfl | rfl | rfl | rfl | rfl | rfl | rfl | rfl
  all_goals
    rcases (show j = 0 ∨ j = 1 ∨ j = 2 by omega) with rfl | rfl | rfl <;> exact ⟨_, rfl, rfl⟩

/-- What the condition on the table gives the walks. -/
theorem of_laid {W : World} (h : laidMetH Tryd.prog [("lodge/code.kinds", Rows.laid_lodge_code_kinds)] W) : Tab W := by
  rw [MakeChecks.laidMetH_plain _ _ _ (by kernel_rfl)] at h
  obtain ⟨ps, ⟨g0, t0, cs, f0, p0, q0, hg0, ht0, hv0, hd0, _, _⟩, _⟩ := h
  obtain rfl := Option.some.inj (gKinds.symm.trans hg0)
  obtain rfl := Option.some.inj (tKinds.symm.trans ht0)
  obtain ⟨xs, m, rfl, hx, hlen, hn, hel⟩ := DataW.trod_array Tryd.underlying157 hd0
  simp only [Prod.mk.injEq] at hx
  rw [laid_kinds, DataW.agg.injEq] at hx
  intro o j ho hj
  obtain ⟨r, hr, hrj⟩ := kind_row o j ho hj
  have h1 := hel o ho
  obtain ⟨x, hxo⟩ : ∃ x, xs[o]? = some x := ⟨xs[o]'(by omega), List.getElem?_eq_getElem _⟩
  rw [hxo] at h1
  have hd1 : x.1 = .agg (r.map fun k => .lit (.int .i64 k)) := by
    have e := congrArg (fun l : List (DataW _) => l[o]?) hx.1
    simp only [List.getElem?_map, hr, hxo, Option.map_some, Option.some.injEq] at e
    exact e.symm
  obtain ⟨ys, m', rfl, hy, hly, hny, hel'⟩ := DataW.trod_array Tryd.underlying156 h1
  have h2 := hel' j hj
  obtain ⟨y, hyj⟩ : ∃ y, ys[j]? = some y := ⟨ys[j]'(by omega), List.getElem?_eq_getElem _⟩
  rw [hyj] at h2
  have hd2 : y.1 = .lit (.int .i64 (kindAt o j)) := by
    rw [hy] at hd1
    simp only [DataW.agg.injEq] at hd1
    have e := congrArg (fun l : List (DataW _) => l[j]?) hd1
    simp only [List.getElem?_map, hrj, hyj, Option.map_some, Option.some.injEq] at e
    exact e
  obtain ⟨k, e1, e2, _⟩ := DataW.trod_int Tryd.underlying3 h2
  have hk : k = kindAt o j := by rw [e2] at hd2; simpa using hd2
  subst hk
  have hcell := World.var?_cell hg0 hv0 (o * 3 + j)
  rw [hcell]
  rw [Tryd.cells156, Tryd.cells3] at e1
  have e3 := congrArg (fun l : List Value => l[0]?) e1
  simp only [Nat.mul_one, List.getElem?_take, List.getElem?_drop, Nat.add_zero, List.getElem?_cons_zero] at e3
  rw [if_pos (by omega), if_pos hj, Array.getElem?_toList] at e3
  exact e3
end Go.Proofs.YtoepcplbpochpabDoor

/-
  What came in, opened, with the bounds of its numbers.
-/
namespace Go.Proofs.YtoepcplbpochpabDoor
open Go.ChangeShapes Go.WideShapes Go.ChangeAt Go.RowKit Go.Deep

set_option maxRecDepth 100000 in
theorem open_codeR {H : Type} {enc : TypeId × Value → H} {w : World} {base : Nat} {spare : Nat → Bool} {held : Bool} {fuel : Nat} {cs : List Value} {x : DataW H × List MemPlace}
    (h : DataW.trod enc Tryd.prog w base spare held fuel 22 cs = some x) :
    cs = [.slice none 0 0] ∨ ∃ (a : Addr) (len cap : Nat) (L : List In4) (elems rest : List (DataW H)), cs = [.slice (some a) len cap] ∧ L.length = len ∧ x.1 = .slice elems rest ∧ elems.length = len ∧ HeldIns w (some a) L ∧ RngI L ∧ len ≤ cap := by
  rcases open_slice Tryd.underlying22 h with ⟨h0, _⟩ | ⟨a, len, cap, m, n, D, Pl, rfl, hb, hl, hm, hmm, rfl, hx⟩
  · exact .inl h0
  right
  have hlm : len ≤ m := by rw [hmm]; split <;> omega
  have each : ∀ i, i < len → ∃ r : In4, w.cell? (a.add (i * 4)) = some (.int .i64 r.op) ∧ w.cell? (a.add (i * 4 + 1)) = some (.int .i64 r.d) ∧ w.cell? (a.add (i * 4 + 2)) = some (.int .i64 r.a) ∧ w.cell? (a.add (i * 4 + 3)) = some (.int .i64 r.b) ∧ Rng r.op ∧ Rng r.d ∧ Rng r.a ∧ Rng r.b := by
    intro i hi
    obtain ⟨cs', h1, h2⟩ := hx i (by omega)
    rw [Tryd.cells31] at h1
    obtain ⟨_, hlen, hcell⟩ := World.cells?_some h1
    obtain ⟨xs, k, hk, hxy, _, hxl, hf⟩ := DataW.trod_struct Tryd.underlying31 h2
    match xs, hxl, cs', hlen with
    | [y0, y1, y2, y3], _, [v0, v1, v2, v3], _ =>
      have g0 := hf 0 _ rfl
      have g1 := hf 1 _ rfl
      have g2 := hf 2 _ rfl
      have g3 := hf 3 _ rfl
      simp [Tryd.cells3] at g0 g1 g2 g3
      obtain ⟨z0, e0, _, f0⟩ := DataW.trod_int Tryd.underlying3 g0
      obtain ⟨z1, e1, _, f1⟩ := DataW.trod_int Tryd.underlying3 g1
      obtain ⟨z2, e2, _, f2⟩ := DataW.trod_int Tryd.underlying3 g2
      obtain ⟨z3, e3, _, f3⟩ := DataW.trod_int Tryd.underlying3 g3
      simp only [List.cons.injEq, and_true] at e0 e1 e2 e3
      subst e0 e1 e2 e3
      have c0 := hcell 0 (by omega)
      have c1 := hcell 1 (by omega)
      have c2 := hcell 2 (by omega)
      have c3 := hcell 3 (by omega)
      rw [add_add] at c0 c1 c2 c3
      exact ⟨⟨z0, z1, z2, z3⟩, by simpa using c0, by simpa using c1, by simpa using c2, by simpa using c3, bounds_i64 f0, bounds_i64 f1, bounds_i64 f2, bounds_i64 f3⟩
  have inh : Inhabited In4 := ⟨⟨0, 0, 0, 0⟩⟩
  obtain ⟨q, hq⟩ := choose_lt each
  have e : ∀ i, i < len → inAt ((List.range len).map q) i = q i := fun i hi => by unfold inAt; simp [hi]
  refine ⟨a, len, cap, (List.range len).map q, _, _, rfl, by simp, rfl, by simp, ?_, fun i hi => ?_, hl⟩
  case refine_2 =>
    rw [List.length_map, List.length_range] at hi
    rw [e i hi]
    obtain ⟨_, _, _, _, g0, g1, g2, g3⟩ := hq i hi
    exact ⟨g0, g1, g2, g3⟩
  by_cases h0 : len = 0
  · exact .inl (by rw [h0]; rfl)
  obtain ⟨b, off, spot⟩ := a
  have hc := (hq 0 (by omega)).1
  have hspot : spot = none := by simpa [Addr.add] using World.cell?_spot hc
  subst hspot
  have hadd : ∀ j, (⟨b, off, none⟩ : Addr).add j = ⟨b, off + j, none⟩ := fun j => by unfold Addr.add; split <;> simp_all
  refine .inr ⟨b, off, rfl, ?_, fun i hi => ?_⟩
  · rw [hadd] at hc; exact World.block_lt_of_cell? w _ hc
  · rw [List.length_map, List.length_range] at hi
    obtain ⟨k0, k1, k2, k3, _⟩ := hq i hi
    rw [hadd] at k0 k1 k2 k3
    rw [e i hi]
    exact ⟨k0, k1, k2, k3⟩

set_option maxRecDepth 100000 in
theorem open_numsR {H : Type} {enc : TypeId × Value → H} {w : World} {base : Nat} {spare : Nat → Bool} {held : Bool} {fuel : Nat} {cs : List Value} {x : DataW H × List MemPlace}
    (h : DataW.trod enc Tryd.prog w base spare held fuel 25 cs = some x) :
    cs = [.slice none 0 0] ∨ ∃ (a : Addr) (len cap : Nat) (L : List Int) (elems rest : List (DataW H)), cs = [.slice (some a) len cap] ∧ L.length = len ∧ x.1 = .slice elems rest ∧ elems.length = len ∧ HeldI w (some a) L ∧ (∀ i, i < L.length → Rng (nth L i)) := by
  rcases open_slice Tryd.underlying25 h with ⟨h0, _⟩ | ⟨a, len, cap, m, n, D, Pl, rfl, hb, hl, hm, hmm, rfl, hx⟩
  · exact .inl h0
  right
  have hlm : len ≤ m := by rw [hmm]; split <;> omega
  have each : ∀ i, i < len → ∃ r : Int, w.cell? (a.add i) = some (.int .i64 r) ∧ Rng r := by
    intro i hi
    obtain ⟨cs', h1, h2⟩ := hx i (by omega)
    rw [Tryd.cells3] at h1
    obtain ⟨_, hlen, hcell⟩ := World.cells?_some h1
    match cs', hlen with
    | [v0], _ =>
      obtain ⟨z0, e0, _, f0⟩ := DataW.trod_int Tryd.underlying3 h2
      simp only [List.cons.injEq, and_true] at e0
      subst e0
      have c0 := hcell 0 (by omega)
      rw [add_add] at c0
      exact ⟨z0, by simpa using c0, bounds_i64 f0⟩
  have inh : Inhabited Int := ⟨0⟩
  obtain ⟨q, hq⟩ := choose_lt each
  have e : ∀ i, i < len → nth ((List.range len).map q) i = q i := fun i hi => by unfold nth; simp [hi]
  refine ⟨a, len, cap, (List.range len).map q, _, _, rfl, by simp, rfl, by simp, ?_, fun i hi => ?_⟩
  case refine_2 =>
    rw [List.length_map, List.length_range] at hi
    rw [e i hi]
    exact (hq i hi).2
  by_cases h0 : len = 0
  · exact .inl (by rw [h0]; rfl)
  obtain ⟨b, off, spot⟩ := a
  have hc := (hq 0 (by omega)).1
  have hspot : spot = none := by simpa [Addr.add] using World.cell?_spot hc
  subst hspot
  have hadd : ∀ j, (⟨b, off, none⟩ : Addr).add j = ⟨b, off + j, none⟩ := fun j => by unfold Addr.add; split <;> simp_all
  refine .inr ⟨b, off, rfl, ?_, fun i hi => ?_⟩
  · rw [hadd] at hc; exact World.block_lt_of_cell? w _ hc
  · rw [List.length_map, List.length_range] at hi
    have k0 := (hq i hi).1
    rw [hadd] at k0
    rw [e i hi]
    exact k0

set_option maxRecDepth 100000 in
theorem open_progR {H : Type} {enc : TypeId × Value → H} {w : World} {base : Nat} {spare : Nat → Bool} {held : Bool} {fuel : Nat} {cl : List Value} {x : DataW H × List MemPlace}
    (h : DataW.trod enc Tryd.prog w base spare held fuel 24 cl = some x) :
    ∃ (P R V : Int) (ac : Option Addr) (L : List In4) (cc : Nat), cl = [.int .i64 P, .int .i64 R, .int .i64 V, .slice ac L.length cc] ∧ HeldIns w ac L ∧ RngI L ∧ Rng P ∧ Rng R ∧ Rng V ∧ L.length ≤ cc ∧ (L = [] ∨ ∃ y0 y1 y2 elems rest, x.1 = .agg [y0, y1, y2, .slice elems rest] ∧ elems.length = L.length) := by
  obtain ⟨xs, n, _, hxy, hl, hxl, hf⟩ := DataW.trod_struct Tryd.underlying24 h
  rw [Tryd.cells24] at hl
  match xs, hxl, cl, hl with
  | [y0, y1, y2, y3], _, [c0, c1, c2, c3], _ =>
    have g0 := hf 0 _ rfl
    have g1 := hf 1 _ rfl
    have g2 := hf 2 _ rfl
    have g3 := hf 3 _ rfl
    simp [Tryd.cells3, Tryd.cells22] at g0 g1 g2 g3
    obtain ⟨z0, e0, _, f0⟩ := DataW.trod_int Tryd.underlying3 g0
    obtain ⟨z1, e1, _, f1⟩ := DataW.trod_int Tryd.underlying3 g1
    obtain ⟨z2, e2, _, f2⟩ := DataW.trod_int Tryd.underlying3 g2
    simp only [List.cons.injEq, and_true] at e0 e1 e2
    subst e0 e1 e2
    rcases open_codeR g3 with hc | ⟨a, l, c, L, elems, rest, hc, hR, hx, he, hh, hr, hlc⟩
    · simp only [List.cons.injEq, and_true] at hc
      subst hc
      exact ⟨z0, z1, z2, none, [], 0, rfl, .inl rfl, fun i hi => absurd hi (Nat.not_lt_zero _), bounds_i64 f0, bounds_i64 f1, bounds_i64 f2, Nat.le_refl _, .inl rfl⟩
    · simp only [List.cons.injEq, and_true] at hc
      subst hc
      refine ⟨z0, z1, z2, some a, L, c, by rw [hR], hh, hr, bounds_i64 f0, bounds_i64 f1, bounds_i64 f2, by rw [hR]; exact hlc, .inr ⟨y0.1, y1.1, y2.1, elems, rest, ?_, by rw [he, hR]⟩⟩
      rw [hxy, ← hx]
      rfl
end Go.Proofs.YtoepcplbpochpabDoor
