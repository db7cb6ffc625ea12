/-
  What lodgekeep.ends answers.
-/
import Derived.Test.YtoepcplbpochpabDoorPart25

namespace Go.Proofs.YtoepcplbpochpabDoor
open Go.RowKit

theorem powF_add (a : Int) : ∀ (k n : Nat) (S : Int), powF a (n + k) S = powF a n (powF a k S)
  | 0, _, _ => rfl
  | k + 1, n, S => powF_add a k n (S * a % 65536)
theorem wrap_id {x : Int} (h0 : -9223372036854775808 ≤ x) (h1 : x ≤ 9223372036854775807) : IntKind.i64.wrap x = x := by rw [IntKind.wrap_i64]; omega

set_option maxRecDepth 100000 in
set_option maxHeartbeats 8000000 in
theorem ends_any (c : Int) (hc : 0 ≤ c ∧ c < 4) (a b : Nat) (ha : a ≤ 65535) (hb : b ≤ 65535) (w : World) :
    Calls Tryd.prog 21 #[.int .i64 c, .int .i64 (a : Int), .int .i64 (b : Int)] w fun e w' => e = .returned (.tuple #[.int .i64 (endV c a b), .int .i64 (endN c a b : Nat)]) ∧ w' = w := by
  rcases (show c = 0 ∨ c = 1 ∨ c = 2 ∨ c = 3 by omega) with rfl | rfl | rfl | rfl
  · have e1 : endV 0 a b = (a : Int) * (a + 1) / 2 % 65536 := rfl
    have e2 : endN 0 a b = a := rfl
    rw [e1, e2]
    have hm0 : 0 ≤ (a : Int) * (a + 1) := by rw [← Int.natCast_succ, ← Int.natCast_mul]; exact Int.natCast_nonneg _
    have hm1 : (a : Int) * (a + 1) ≤ 65535 * 65536 := Int.mul_le_mul (by omega) (by omega) (by omega) (by decide)
    obtain ⟨m, hm⟩ : ∃ m, m = (a : Int) * (a + 1) := ⟨_, rfl⟩
    rw [← hm] at hm0 hm1
    rw [← hm]
    have t1 : m.tdiv 2 = m / 2 := Int.tdiv_eq_ediv_of_nonneg hm0
    have t2 : (m / 2).tmod 65536 = m / 2 % 65536 := Int.tmod_eq_emod_of_nonneg (by omega)
    have wa : IntKind.i64.wrap ((a : Int) + 1) = (a : Int) + 1 := wrap_id (by omega) (by omega)
    have wm : IntKind.i64.wrap ((a : Int) * ((a : Int) + 1)) = m := by rw [← hm]; exact wrap_id (by omega) (by omega)
    have wd : IntKind.i64.wrap (m / 2) = m / 2 := wrap_id (by omega) (by omega)
    have we : IntKind.i64.wrap (m / 2 % 65536) = m / 2 % 65536 := wrap_id (by omega) (by omega)
    clear hm
    go_enter Tryd.func21, Tryd.ntmps21
    go_wp2_with fail
    go_returns
    exact ⟨rfl, rfl⟩
  · have e1 : endV 1 a b = (eucG (b + 1) a b : Int) := rfl
    have e2 : endN 1 a b = eucN (b + 1) a b := rfl
    rw [e1, e2]
    have hf := euc_few 17 (b + 1) a b (by show b < 131072; omega)
    go_enter Tryd.func21, Tryd.ntmps21
    go_wp2_with fail
    go_loopw [1, 2, 8] (fun a' b' n' wr => ∃ x y k f : Nat, a' = .int .i64 x ∧ b' = .int .i64 y ∧ n' = .int .i64 k ∧ x ≤ 65535 ∧ y ≤ 65535 ∧ y < f ∧ Hid (eucG (b + 1) a b = eucG f x y) ∧ Hid (eucN (b + 1) a b = k + eucN f x y) ∧ wr = w) (fun _ b' _ _ => (intOf b').toNat)
    case atStart => exact ⟨a, b, 0, b + 1, rfl, rfl, rfl, ha, hb, by omega, rfl, (Nat.zero_add _).symm, rfl⟩
    case round =>
      obtain ⟨x, y, k, f, rfl, rfl, rfl, hx, hy, hf', HG, HN, rfl⟩ := hrel
      obtain ⟨f, rfl⟩ : ∃ g, f = g + 1 := ⟨f - 1, by omega⟩
      by_cases j1 : y = 0
      · subst j1
        have g1 : eucG (b + 1) a b = x := by rw [unhide HG]; unfold eucG; rw [if_pos rfl]
        have g2 : eucN (b + 1) a b = k := by rw [unhide HN]; unfold eucN; rw [if_pos rfl]; rfl
        go_wp2_with fail
        go_returns
        rw [g1, g2]
        exact ⟨rfl, rfl⟩
      · have g1 : eucG (b + 1) a b = eucG f y (x % y) := by rw [unhide HG]; show (if y = 0 then x else eucG f y (x % y)) = _; rw [if_neg j1]
        have g2 : eucN (b + 1) a b = k + 1 + eucN f y (x % y) := by rw [unhide HN]; show k + (if y = 0 then 0 else eucN f y (x % y) + 1) = _; rw [if_neg j1]; omega
        have hk : k ≤ 34 := by omega
        have G1 := hide g1
        have G2 := hide g2
        have hm := Nat.mod_lt x (Nat.pos_of_ne_zero j1)
        have hyz : ((y : Int) == 0) = false := by simp; omega
        have hyp : (0 : Int) < (y : Int) := by omega
        have t1 : (x : Int).tmod (y : Int) = ((x % y : Nat) : Int) := rfl
        have t2 : IntKind.i64.wrap ((x % y : Nat) : Int) = ((x % y : Nat) : Int) := wrap_id (by omega) (by omega)
        clear HG HN g1 g2 hf
        go_wp2_with fail
        go_roundw
        case rel => exact ⟨y, x % y, k + 1, f, rfl, by first | rfl | go_num | simp [t1], by go_num, hy, by omega, by omega, unhide G1, unhide G2, trivial⟩
        case measure => simp [intOf]; omega
  · have e1 : endV 2 a b = powF a b 1 := rfl
    have e2 : endN 2 a b = b := rfl
    rw [e1, e2]
    go_enter Tryd.func21, Tryd.ntmps21
    go_wp2_with fail
    go_loopw [10, 11] (fun v' i' wr => ∃ k : Nat, ∃ v : Int, k ≤ b ∧ v' = .int .i64 v ∧ i' = .int .i64 k ∧ 0 ≤ v ∧ v ≤ 65535 ∧ Hid (powF a b 1 = powF a (b - k) v) ∧ wr = w) (fun _ i' _ => b - (intOf i').toNat)
    case atStart => exact ⟨0, 1, Nat.zero_le _, rfl, rfl, by decide, by decide, rfl, rfl⟩
    case round =>
      obtain ⟨k, v, hk, rfl, rfl, v0, v1, HP, rfl⟩ := hrel
      by_cases j1 : k < b
      case neg =>
        obtain rfl : k = b := by omega
        have g1 : powF a k 1 = v := by rw [unhide HP, Nat.sub_self]; rfl
        go_wp2_with fail
        go_returns
        rw [g1]
        exact ⟨rfl, rfl⟩
      have j2 : (k : Int) < (b : Int) := by omega
      obtain ⟨n, hn⟩ : ∃ n, b - k = n + 1 := ⟨b - k - 1, by omega⟩
      have g1 : powF a b 1 = powF a (b - (k + 1)) (v * a % 65536) := by rw [unhide HP, hn, show b - (k + 1) = n by omega]; rfl
      have G1 := hide g1
      clear g1 HP hn
      have hm0 : 0 ≤ v * (a : Int) := Int.mul_nonneg v0 (Int.natCast_nonneg _)
      have hm1 : v * (a : Int) ≤ 65535 * 65535 := Int.mul_le_mul v1 (by omega) (by omega) (by decide)
      obtain ⟨m, hm⟩ : ∃ m, m = v * (a : Int) := ⟨_, rfl⟩
      rw [← hm] at hm0 hm1 G1
      have t2 : m.tmod 65536 = m % 65536 := Int.tmod_eq_emod_of_nonneg hm0
      have wm : IntKind.i64.wrap (v * (a : Int)) = m := by rw [← hm]; exact wrap_id (by omega) (by omega)
      have we : IntKind.i64.wrap (m % 65536) = m % 65536 := wrap_id (by omega) (by omega)
      clear hm
      go_wp2_with fail
      go_roundw
      case rel => exact ⟨k + 1, m % 65536, by omega, by first | rfl | simp [t2, wm, we], by go_num, by omega, by omega, unhide G1, trivial⟩
      case measure => simp [intOf]; omega
  · have e1 : endV 3 a b = if b = 0 then -1 else ((a % b : Nat) : Int) := rfl
    have e2 : endN 3 a b = if b = 0 then 0 else 1 := rfl
    rw [e1, e2]
    by_cases hz : b = 0
    · rw [if_pos hz, if_pos hz]
      subst hz
      go_enter Tryd.func21, Tryd.ntmps21
      go_wp2_with fail
      go_returns
      exact ⟨rfl, rfl⟩
    · rw [if_neg hz, if_neg hz]
      have hbz : ((b : Int) == 0) = false := by simp; omega
      have hm := Nat.mod_lt a (Nat.pos_of_ne_zero hz)
      have t1 : (a : Int).tmod (b : Int) = ((a % b : Nat) : Int) := rfl
      have t2 : IntKind.i64.wrap ((a % b : Nat) : Int) = ((a % b : Nat) : Int) := wrap_id (by omega) (by omega)
      go_enter Tryd.func21, Tryd.ntmps21
      go_wp2_with fail
      go_returns
      exact ⟨rfl, rfl⟩
end Go.Proofs.YtoepcplbpochpabDoor

/-
  The walk through lodgekeep.Known.
-/
namespace Go.Proofs.YtoepcplbpochpabDoor
open Go.RowKit

theorem kn_args {a b : Nat} (ha : a ≤ 65535) (hb : b ≤ 65535) : ArgsOk [(a : Int), (b : Int)] 2 := ⟨rfl, fun i => by
  rcases i with _ | _ | i
  · show 0 ≤ (a : Int) ∧ (a : Int) ≤ 65535; omega
  · show 0 ≤ (b : Int) ∧ (b : Int) ≤ 65535; omega
  · show (0 : Int) ≤ 0 ∧ (0 : Int) ≤ 65535; decide⟩
theorem box_args (w : World) (a b : Int) : ∃ w1, w1 = w.alloc (.cells #[.int .i64 a, .int .i64 b] 3) ∧ Hid (HeldI w1 (some ⟨w.heap.size, 0, none⟩) [a, b]) ∧ Hid (Below w.heap.size w w1) ∧ w1.heap.size = w.heap.size + 1 :=
  ⟨_, rfl, .inr ⟨w.heap.size, 0, rfl, by simp, fun i hi => by
    have : i = 0 ∨ i = 1 := by have : i < 2 := hi; omega
    rcases this with rfl | rfl <;> (rw [World.cell?_alloc_at (hn := rfl)]; rfl)⟩, below_alloc _ _, by simp⟩
/-- The last Stop's cell. -/
theorem last_cell {w : World} {N base : Nat} {s : St} {oo : Option Addr} {oc : Nat} {so : Option Addr} {sc : Nat} (h : ResAt w N base s oo oc so sc) {c v : Int} {m : Nat} (he : KnEnd s c v (m + 1)) (hc : c ≠ 1) {j : Nat} (hj : endJ c = j) (hj4 : j < 4) :
    ∃ b off, so = some ⟨b, off, none⟩ ∧ w.cell? ⟨b, off + m * 5 + 1 + j, none⟩ = some (.int .i64 v) := by
  obtain ⟨_, _, hse, hS, _⟩ := own_heldS h.stops
  cases hse
  rcases hS with e | ⟨b, off, rfl, _, g⟩
  · exfalso; have := he.len; rw [e] at this; cases this
  · refine ⟨b, off, rfl, ?_⟩
    have hl := he.last (by omega) hc
    rw [Nat.add_sub_cancel, hj] at hl
    have := (g m (by rw [he.len]; omega)).2 j hj4
    rw [hl] at this
    exact this
set_option maxRecDepth 100000 in
set_option maxHeartbeats 8000000 in
theorem known_walk0 (c k x y : Int) (w : World) (hpc : pickI c 4 = 0) (hc : Rng c) (hk : Rng k) (hx : Rng x) (hy : Rng y) (hT : Tab w) (hw0 : 0 < w.heap.size) :
    Calls Tryd.prog 7 #[.int .i64 c, .int .i64 k, .int .i64 x, .int .i64 y] w fun e w' => e = .returned (.bool true) ∧ Below w.heap.size w w' := by
  have KP := hide (fun (c n : Int) (w : World) (h : Rng c) (hn : 0 < n) => pick_any c n w h.1 h.2 hn)
  have HPC := hide hpc
  have bA := pick_lt x 1001 (by decide)
  have bB := pick_lt y 65536 (by decide)
  obtain ⟨A, hA⟩ : ∃ A : Nat, (A : Int) = pickI x 1001 := ⟨(pickI x 1001).toNat, by omega⟩
  obtain ⟨B, hB⟩ : ∃ B : Nat, (B : Int) = pickI y 65536 := ⟨(pickI y 65536).toNat, by omega⟩
  have hA' : A ≤ 1000 := by omega
  have hB' : B ≤ 65535 := by omega
  have HAE := hide hA
  have HBE := hide hB
  have bK := pick_lt k 15 (by decide)
  obtain ⟨K, hKe⟩ : ∃ K : Nat, (K : Int) = 2 + pickI k 15 := ⟨(2 + pickI k 15).toNat, by omega⟩
  have hK : 2 ≤ K := by omega
  have hK' : K ≤ 16 := by omega
  have HKE := hide hKe
  clear hKe hA hB hpc bA bB
  obtain ⟨hEa, hEb⟩ := kn_all (c := 0) (by decide) (a := A) (b := B) (by omega) (by omega) (fun h => by omega) (fun h => by omega) hK hK'
  have hp : RightP (2 : Nat) (5 : Nat) (2 : Nat) (knL 0) := knL_right
  have KN := hide (known_any 0 (by decide) w)
  have KE := hide (fun w => ends_any 0 (by decide) A B (by omega) (by omega) w)
  have hxa := kn_args (a := A) (b := B) (by omega) (by omega)
  obtain ⟨L, hL⟩ : ∃ L, L = knL 0 := ⟨_, rfl⟩
  rw [← hL] at hEa hEb hp KN
  clear hL
  obtain ⟨v, hv⟩ : ∃ v, v = endV 0 A B := ⟨_, rfl⟩
  obtain ⟨n, hn⟩ : ∃ n, n = endN 0 A B := ⟨_, rfl⟩
  have hnb : n ≤ 65535 := by rw [hn]; show A ≤ 65535; omega
  rw [← hv, ← hn] at hEa hEb
  rw [← hv, ← hn] at KE
  clear hv hn
  have HT := hide hT
  clear hT
  go_enter Tryd.func7, Tryd.ntmps7
  go_wp2_with fail
  refine (unhide KP c 4 _ hc (by decide)).mono ?_
  rintro _ w1 ⟨rfl, hw1⟩
  rw [hw1, unhide HPC]
  clear hw1
  go_wp2_with fail
  refine (unhide KP k 15 _ hk (by decide)).mono ?_
  rintro _ w1 ⟨rfl, hw1⟩
  rw [hw1]
  clear hw1
  go_wp2_with fail
  refine (unhide KP x 65536 _ hx (by decide)).mono ?_
  rintro _ w1 ⟨rfl, hw1⟩
  rw [hw1]
  clear hw1
  go_wp2_with fail
  refine (unhide KP y 65536 _ hy (by decide)).mono ?_
  rintro _ w1 ⟨rfl, hw1⟩
  rw [hw1, ← unhide HBE]
  clear hw1
  go_wp2_with fail
  refine (unhide KP x 1001 _ hx (by decide)).mono ?_
  rintro _ w1 ⟨rfl, hw1⟩
  rw [hw1, ← unhide HAE]
  clear hw1
  go_wp2_with fail
  refine (unhide KN).mono ?_
  rintro _ w2 ⟨ao, cap, rfl, hH2, hb2⟩
  have hz2 := hb2.size
  obtain ⟨w3, hw3, HP3, HL3', hz3⟩ := box_prog w2 2 5 2 (.slice ao L.length cap)
  have HW3 := hide hw3
  clear hw3 KN
  go_upto_region 10 with fail
  rw [← unhide HW3]
  obtain ⟨w4, hw4, HA4, HL4', hz4⟩ := box_args w3 A B
  have HW4 := hide hw4
  clear hw4
  rw [hz3] at HA4
  have hb4 : Below w2.heap.size w2 w4 := (unhide HL3').trans ((unhide HL4').mono (by omega))
  have HL4 : Hid (Below w.heap.size w w4) := hb2.trans (hb4.mono hz2)
  obtain ⟨xs, hxs⟩ : ∃ xs, xs = [(A : Int), (B : Int)] := ⟨_, rfl⟩
  have hxl : xs.length = 2 := by rw [hxs]; rfl
  rw [← hxs] at hEa hEb hxa HA4
  have HLP4 : Hid (LabP w4 w2.heap.size 2 5 2 L ao cap (some ⟨w2.heap.size + 1, 0, none⟩) xs) := ⟨((unhide HL4').block _ (by omega)).trans (unhide HP3), hH2.below' hb4, unhide HA4, (unhide HT).below (unhide HL4) hw0, by omega⟩
  clear hxs hH2 hb2 hb4 HP3 HL3' HL4' HA4 HT
  have hp2 : ((2 : Nat) : Int) = 2 := rfl
  have hp5 : ((5 : Nat) : Int) = 5 := rfl
  have KY := hide (ready_any 2 5 2 K L ao (some ⟨w2.heap.size + 1, 0, none⟩) cap 2 xs w4 hp hK hK' hxa (unhide HLP4).code (unhide HLP4).args (unhide HLP4).tab (unhide HLP4).pos)
  rw [hp2, hp5, hxl] at KY
  go_upto_region 11 with fail
  rw [← unhide HW4]
  have q0 : w4.cell? ⟨w2.heap.size, 0, none⟩ = some (.int .i64 2) := (unhide HLP4).prog.c0
  have q1 : w4.cell? ⟨w2.heap.size, 1, none⟩ = some (.int .i64 5) := (unhide HLP4).prog.c1
  have q2 : w4.cell? ⟨w2.heap.size, 2, none⟩ = some (.int .i64 2) := (unhide HLP4).prog.c2
  have q3 := (unhide HLP4).prog.c3
  go_wp2_with fail
  rw [← unhide HKE]
  refine (unhide KY).mono ?_
  rintro _ w6 ⟨uo, uc, rfl, hH6, _, hb6⟩
  unfold unitV
  rw [hp2]
  clear q0 q1 q2 q3 KY
  obtain ⟨w7, hw7, HU7', HL7', hz7⟩ := box_unit w6 K (slotsB L 2 5 K) 2 2 (.slice uo (cmpC 2 5 K L).length uc) (encT (cmpR 2 5 2 K L))
  have HLU7 : Hid (LabU w7 w6.heap.size 2 5 2 K L uo uc) := ⟨unhide HU7', hH6.below' (unhide HL7')⟩
  have hb57 : Below w4.heap.size w4 w7 := hb6.trans ((unhide HL7').mono hb6.size)
  have HLP7 := hide ((unhide HLP4).below hb57)
  have HL7 : Hid (Below w.heap.size w w7) := (unhide HL4).trans (hb57.mono (unhide HL4).size)
  have HW7 := hide hw7
  clear hw7 hb6 hb57 hH6 HLP4 HL4 HU7' HL7' HW4 HW3
  have KA := hide (fun w (h : LabP w w2.heap.size 2 5 2 L ao cap (some ⟨w2.heap.size + 1, 0, none⟩) xs) => lab_run hp hxa ao (some ⟨w2.heap.size + 1, 0, none⟩) cap 2 20000 (by omega) w h.code h.args h.tab h.pos)
  have KB := hide (fun w (h : LabP w w2.heap.size 2 5 2 L ao cap (some ⟨w2.heap.size + 1, 0, none⟩) xs) (h' : LabU w w6.heap.size 2 5 2 K L uo uc) => lab_mach hp hK hK' hxa uo (some ⟨w2.heap.size + 1, 0, none⟩) uc 2 80004 (by omega) w h'.code h.args h.tab h.pos)
  obtain ⟨sa, hsa⟩ : ∃ sa, sa = runSt L 20000 (st0 xs) := ⟨_, rfl⟩
  obtain ⟨sb, hsb⟩ : ∃ sb, sb = runSt (cmpC 2 5 K L) 80004 (stU (cmpR 2 5 2 K L) none xs) := ⟨_, rfl⟩
  rw [← hsa] at KA hEa
  rw [← hsb] at KB hEb
  rw [show ((20000 : Nat) : Int) = 20000 from rfl, hp2, hp5, hxl] at KA
  rw [show ((80004 : Nat) : Int) = 80004 from rfl, hp2, hxl] at KB
  clear hsa hsb
  obtain ⟨S, hS⟩ : ∃ S, S = slotsB L 2 5 K := ⟨_, rfl⟩
  obtain ⟨C, hC⟩ : ∃ C, C = cmpC 2 5 K L := ⟨_, rfl⟩
  obtain ⟨T, hTe⟩ : ∃ T, T = encT (cmpR 2 5 2 K L) := ⟨_, rfl⟩
  have HSE := hide hS
  have HCE := hide hC
  have HTE := hide hTe
  rw [← hS, ← hC, ← hTe] at KB
  rw [← hS, ← hC, ← hTe] at HW7
  rw [← hS, ← hC, ← hTe]
  clear hS hC hTe
  go_upto_region 12 with fail
  rw [← unhide HW7]
  have q0 : w7.cell? ⟨w2.heap.size, 0, none⟩ = some (.int .i64 2) := (unhide HLP7).prog.c0
  have q1 : w7.cell? ⟨w2.heap.size, 1, none⟩ = some (.int .i64 5) := (unhide HLP7).prog.c1
  have q2 : w7.cell? ⟨w2.heap.size, 2, none⟩ = some (.int .i64 2) := (unhide HLP7).prog.c2
  have q3 := (unhide HLP7).prog.c3
  go_wp2_with fail
  refine (unhide KA w7 (unhide HLP7)).mono ?_
  rintro _ w8 hpost
  obtain ⟨o1, c1, o2, c2, rfl, w9, hw9, HA9, HB9, hz8⟩ := after_run hpost
  have HW9 := hide hw9
  have HLP9 := hide ((unhide HLP7).below (unhide HB9))
  have HLU9 := hide ((unhide HLU7).below (unhide HB9))
  have HL9 : Hid (Below w.heap.size w w9) := (unhide HL7).trans ((unhide HB9).mono (unhide HL7).size)
  clear hw9 hpost q0 q1 q2 q3 HLP7 HLU7 HL7 HB9 KA HW7
  go_upto_region 15 with fail
  rw [← unhide HW9]
  obtain ⟨u0, u1, u2, u3, u4, u5⟩ := labu_cells (unhide HLU9)
  rw [← unhide HSE] at u1
  rw [hp2] at u2 u3
  rw [← unhide HCE] at u4
  rw [← unhide HTE] at u5
  go_wp2_with fail
  refine (unhide KB w9 (unhide HLP9) (unhide HLU9)).mono ?_
  rintro _ w10 hpost
  obtain ⟨o3, c3, o4, c4, rfl, w11, hw11, HB11, HL11', hz10⟩ := after_run hpost
  have HW11 := hide hw11
  have HA11 := hide ((unhide HA9).below (unhide HL11'))
  have HL11 : Hid (Below w.heap.size w w11) := (unhide HL9).trans ((unhide HL11').mono (unhide HL9).size)
  clear hw11 hpost u0 u1 u2 u3 u4 u5 HLP9 HLU9 HL9 HA9 HL11' KB HW9 HSE HCE HTE
  go_upto_region 16 with fail
  rw [← unhide HW11]
  go_wp2_with fail
  refine (unhide KE _).mono ?_
  rintro _ w12 ⟨rfl, hw12⟩
  rw [hw12]
  clear hw12 KE HW11 hp hxa
  have a0 := (unhide HA11).c0
  have a1 := (unhide HA11).c1
  have a4 := (unhide HA11).c4
  have b0 := (unhide HB11).c0
  have b1 := (unhide HB11).c1
  have b4 := (unhide HB11).c4
  rw [hEa.len] at a4
  rw [hEb.len] at b4
  rcases Int.lt_or_le v 0 with hv | hv
  · rw [hEa.trap hv] at a0
    rw [hEb.trap hv] at b0
    clear hEa hEb
    go_wp2_with fail
    go_returns
    exact ⟨rfl, unhide HL11⟩
  rw [(hEa.ret hv).1] at a0
  rw [(hEa.ret hv).2] at a1
  rw [(hEb.ret hv).1] at b0
  rw [(hEb.ret hv).2] at b1
  have hv' : ¬ v < 0 := by omega
  cases n with
  | zero =>
    clear hEa hEb
    go_wp2_with fail
    go_returns
    exact ⟨rfl, unhide HL11⟩
  | succ m =>
    have hmx : m < 100000 := by omega
    obtain ⟨g1, f1, rfl, x1⟩ := last_cell (unhide HA11) hEa (by decide) (j := 0) rfl (by decide)
    obtain ⟨g2, f2, rfl, x2⟩ := last_cell (unhide HB11) hEb (by decide) (j := 0) rfl (by decide)
    rw [Nat.add_zero] at x1 x2
    have hn' : ¬ ((m + 1 : Nat) : Int) = 0 := by omega
    have wn : IntKind.i64.wrap (((m + 1 : Nat) : Int) - 1) = (m : Int) := by rw [wrap_id (by omega) (by omega)]; omega
    have m1 : (m : Int) < ((m + 1 : Nat) : Int) := by omega
    have m0 : (0 : Int) ≤ (m : Int) := by omega
    clear hEa hEb
    go_wp2_with fail
    go_returns
    exact ⟨rfl, unhide HL11⟩
set_option maxRecDepth 100000 in
set_option maxHeartbeats 8000000 in
theorem known_walk1 (c k x y : Int) (w : World) (hpc : pickI c 4 = 1) (hc : Rng c) (hk : Rng k) (hx : Rng x) (hy : Rng y) (hT : Tab w) (hw0 : 0 < w.heap.size) :
    Calls Tryd.prog 7 #[.int .i64 c, .int .i64 k, .int .i64 x, .int .i64 y] w fun e w' => e = .returned (.bool true) ∧ Below w.heap.size w w' := by
  have KP := hide (fun (c n : Int) (w : World) (h : Rng c) (hn : 0 < n) => pick_any c n w h.1 h.2 hn)
  have HPC := hide hpc
  have bA := pick_lt x 65536 (by decide)
  have bB := pick_lt y 65536 (by decide)
  obtain ⟨A, hA⟩ : ∃ A : Nat, (A : Int) = pickI x 65536 := ⟨(pickI x 65536).toNat, by omega⟩
  obtain ⟨B, hB⟩ : ∃ B : Nat, (B : Int) = pickI y 65536 := ⟨(pickI y 65536).toNat, by omega⟩
  have hA' : A ≤ 65535 := by omega
  have hB' : B ≤ 65535 := by omega
  have HAE := hide hA
  have HBE := hide hB
  have bK := pick_lt k 15 (by decide)
  obtain ⟨K, hKe⟩ : ∃ K : Nat, (K : Int) = 2 + pickI k 15 := ⟨(2 + pickI k 15).toNat, by omega⟩
  have hK : 2 ≤ K := by omega
  have hK' : K ≤ 16 := by omega
  have HKE := hide hKe
  clear hKe hA hB hpc bA bB
  obtain ⟨hEa, hEb⟩ := kn_all (c := 1) (by decide) (a := A) (b := B) (by omega) (by omega) (fun h => by omega) (fun h => by omega) hK hK'
  have hp : RightP (2 : Nat) (5 : Nat) (2 : Nat) (knL 1) := knL_right
  have KN := hide (known_any 1 (by decide) w)
  have KE := hide (fun w => ends_any 1 (by decide) A B (by omega) (by omega) w)
  have hxa := kn_args (a := A) (b := B) (by omega) (by omega)
  obtain ⟨L, hL⟩ : ∃ L, L = knL 1 := ⟨_, rfl⟩
  rw [← hL] at hEa hEb hp KN
  clear hL
  obtain ⟨v, hv⟩ : ∃ v, v = endV 1 A B := ⟨_, rfl⟩
  obtain ⟨n, hn⟩ : ∃ n, n = endN 1 A B := ⟨_, rfl⟩
  rw [← hv, ← hn] at hEa hEb
  rw [← hv, ← hn] at KE
  clear hv hn
  have HT := hide hT
  clear hT
  go_enter Tryd.func7, Tryd.ntmps7
  go_wp2_with fail
  refine (unhide KP c 4 _ hc (by decide)).mono ?_
  rintro _ w1 ⟨rfl, hw1⟩
  rw [hw1, unhide HPC]
  clear hw1
  go_wp2_with fail
  refine (unhide KP k 15 _ hk (by decide)).mono ?_
  rintro _ w1 ⟨rfl, hw1⟩
  rw [hw1]
  clear hw1
  go_wp2_with fail
  refine (unhide KP x 65536 _ hx (by decide)).mono ?_
  rintro _ w1 ⟨rfl, hw1⟩
  rw [hw1, ← unhide HAE]
  clear hw1
  go_wp2_with fail
  refine (unhide KP y 65536 _ hy (by decide)).mono ?_
  rintro _ w1 ⟨rfl, hw1⟩
  rw [hw1, ← unhide HBE]
  clear hw1
  go_wp2_with fail
  refine (unhide KN).mono ?_
  rintro _ w2 ⟨ao, cap, rfl, hH2, hb2⟩
  have hz2 := hb2.size
  obtain ⟨w3, hw3, HP3, HL3', hz3⟩ := box_prog w2 2 5 2 (.slice ao L.length cap)
  have HW3 := hide hw3
  clear hw3 KN
  go_upto_region 10 with fail
  rw [← unhide HW3]
  obtain ⟨w4, hw4, HA4, HL4', hz4⟩ := box_args w3 A B
  have HW4 := hide hw4
  clear hw4
  rw [hz3] at HA4
  have hb4 : Below w2.heap.size w2 w4 := (unhide HL3').trans ((unhide HL4').mono (by omega))
  have HL4 : Hid (Below w.heap.size w w4) := hb2.trans (hb4.mono hz2)
  obtain ⟨xs, hxs⟩ : ∃ xs, xs = [(A : Int), (B : Int)] := ⟨_, rfl⟩
  have hxl : xs.length = 2 := by rw [hxs]; rfl
  rw [← hxs] at hEa hEb hxa HA4
  have HLP4 : Hid (LabP w4 w2.heap.size 2 5 2 L ao cap (some ⟨w2.heap.size + 1, 0, none⟩) xs) := ⟨((unhide HL4').block _ (by omega)).trans (unhide HP3), hH2.below' hb4, unhide HA4, (unhide HT).below (unhide HL4) hw0, by omega⟩
  clear hxs hH2 hb2 hb4 HP3 HL3' HL4' HA4 HT
  have hp2 : ((2 : Nat) : Int) = 2 := rfl
  have hp5 : ((5 : Nat) : Int) = 5 := rfl
  have KY := hide (ready_any 2 5 2 K L ao (some ⟨w2.heap.size + 1, 0, none⟩) cap 2 xs w4 hp hK hK' hxa (unhide HLP4).code (unhide HLP4).args (unhide HLP4).tab (unhide HLP4).pos)
  rw [hp2, hp5, hxl] at KY
  go_upto_region 11 with fail
  rw [← unhide HW4]
  have q0 : w4.cell? ⟨w2.heap.size, 0, none⟩ = some (.int .i64 2) := (unhide HLP4).prog.c0
  have q1 : w4.cell? ⟨w2.heap.size, 1, none⟩ = some (.int .i64 5) := (unhide HLP4).prog.c1
  have q2 : w4.cell? ⟨w2.heap.size, 2, none⟩ = some (.int .i64 2) := (unhide HLP4).prog.c2
  have q3 := (unhide HLP4).prog.c3
  go_wp2_with fail
  rw [← unhide HKE]
  refine (unhide KY).mono ?_
  rintro _ w6 ⟨uo, uc, rfl, hH6, _, hb6⟩
  unfold unitV
  rw [hp2]
  clear q0 q1 q2 q3 KY
  obtain ⟨w7, hw7, HU7', HL7', hz7⟩ := box_unit w6 K (slotsB L 2 5 K) 2 2 (.slice uo (cmpC 2 5 K L).length uc) (encT (cmpR 2 5 2 K L))
  have HLU7 : Hid (LabU w7 w6.heap.size 2 5 2 K L uo uc) := ⟨unhide HU7', hH6.below' (unhide HL7')⟩
  have hb57 : Below w4.heap.size w4 w7 := hb6.trans ((unhide HL7').mono hb6.size)
  have HLP7 := hide ((unhide HLP4).below hb57)
  have HL7 : Hid (Below w.heap.size w w7) := (unhide HL4).trans (hb57.mono (unhide HL4).size)
  have HW7 := hide hw7
  clear hw7 hb6 hb57 hH6 HLP4 HL4 HU7' HL7' HW4 HW3
  have KA := hide (fun w (h : LabP w w2.heap.size 2 5 2 L ao cap (some ⟨w2.heap.size + 1, 0, none⟩) xs) => lab_run hp hxa ao (some ⟨w2.heap.size + 1, 0, none⟩) cap 2 20000 (by omega) w h.code h.args h.tab h.pos)
  have KB := hide (fun w (h : LabP w w2.heap.size 2 5 2 L ao cap (some ⟨w2.heap.size + 1, 0, none⟩) xs) (h' : LabU w w6.heap.size 2 5 2 K L uo uc) => lab_mach hp hK hK' hxa uo (some ⟨w2.heap.size + 1, 0, none⟩) uc 2 80004 (by omega) w h'.code h.args h.tab h.pos)
  obtain ⟨sa, hsa⟩ : ∃ sa, sa = runSt L 20000 (st0 xs) := ⟨_, rfl⟩
  obtain ⟨sb, hsb⟩ : ∃ sb, sb = runSt (cmpC 2 5 K L) 80004 (stU (cmpR 2 5 2 K L) none xs) := ⟨_, rfl⟩
  rw [← hsa] at KA hEa
  rw [← hsb] at KB hEb
  rw [show ((20000 : Nat) : Int) = 20000 from rfl, hp2, hp5, hxl] at KA
  rw [show ((80004 : Nat) : Int) = 80004 from rfl, hp2, hxl] at KB
  clear hsa hsb
  obtain ⟨S, hS⟩ : ∃ S, S = slotsB L 2 5 K := ⟨_, rfl⟩
  obtain ⟨C, hC⟩ : ∃ C, C = cmpC 2 5 K L := ⟨_, rfl⟩
  obtain ⟨T, hTe⟩ : ∃ T, T = encT (cmpR 2 5 2 K L) := ⟨_, rfl⟩
  have HSE := hide hS
  have HCE := hide hC
  have HTE := hide hTe
  rw [← hS, ← hC, ← hTe] at KB
  rw [← hS, ← hC, ← hTe] at HW7
  rw [← hS, ← hC, ← hTe]
  clear hS hC hTe
  go_upto_region 12 with fail
  rw [← unhide HW7]
  have q0 : w7.cell? ⟨w2.heap.size, 0, none⟩ = some (.int .i64 2) := (unhide HLP7).prog.c0
  have q1 : w7.cell? ⟨w2.heap.size, 1, none⟩ = some (.int .i64 5) := (unhide HLP7).prog.c1
  have q2 : w7.cell? ⟨w2.heap.size, 2, none⟩ = some (.int .i64 2) := (unhide HLP7).prog.c2
  have q3 := (unhide HLP7).prog.c3
  go_wp2_with fail
  refine (unhide KA w7 (unhide HLP7)).mono ?_
  rintro _ w8 hpost
  obtain ⟨o1, c1, o2, c2, rfl, w9, hw9, HA9, HB9, hz8⟩ := after_run hpost
  have HW9 := hide hw9
  have HLP9 := hide ((unhide HLP7).below (unhide HB9))
  have HLU9 := hide ((unhide HLU7).below (unhide HB9))
  have HL9 : Hid (Below w.heap.size w w9) := (unhide HL7).trans ((unhide HB9).mono (unhide HL7).size)
  clear hw9 hpost q0 q1 q2 q3 HLP7 HLU7 HL7 HB9 KA HW7
  go_upto_region 15 with fail
  rw [← unhide HW9]
  obtain ⟨u0, u1, u2, u3, u4, u5⟩ := labu_cells (unhide HLU9)
  rw [← unhide HSE] at u1
  rw [hp2] at u2 u3
  rw [← unhide HCE] at u4
  rw [← unhide HTE] at u5
  go_wp2_with fail
  refine (unhide KB w9 (unhide HLP9) (unhide HLU9)).mono ?_
  rintro _ w10 hpost
  obtain ⟨o3, c3, o4, c4, rfl, w11, hw11, HB11, HL11', hz10⟩ := after_run hpost
  have HW11 := hide hw11
  have HA11 := hide ((unhide HA9).below (unhide HL11'))
  have HL11 : Hid (Below w.heap.size w w11) := (unhide HL9).trans ((unhide HL11').mono (unhide HL9).size)
  clear hw11 hpost u0 u1 u2 u3 u4 u5 HLP9 HLU9 HL9 HA9 HL11' KB HW9 HSE HCE HTE
  go_upto_region 16 with fail
  rw [← unhide HW11]
  go_wp2_with fail
  refine (unhide KE _).mono ?_
  rintro _ w12 ⟨rfl, hw12⟩
  rw [hw12]
  clear hw12 KE HW11 hp hxa
  have a0 := (unhide HA11).c0
  have a1 := (unhide HA11).c1
  have a4 := (unhide HA11).c4
  have b0 := (unhide HB11).c0
  have b1 := (unhide HB11).c1
  have b4 := (unhide HB11).c4
  rw [hEa.len] at a4
  rw [hEb.len] at b4
  rcases Int.lt_or_le v 0 with hv | hv
  · rw [hEa.trap hv] at a0
    rw [hEb.trap hv] at b0
    clear hEa hEb
    go_wp2_with fail
    go_returns
    exact ⟨rfl, unhide HL11⟩
  rw [(hEa.ret hv).1] at a0
  rw [(hEa.ret hv).2] at a1
  rw [(hEb.ret hv).1] at b0
  rw [(hEb.ret hv).2] at b1
  have hv' : ¬ v < 0 := by omega
  clear hEa hEb
  by_cases hn : n = 0
  · subst hn
    go_wp2_with fail
    go_returns
    exact ⟨rfl, unhide HL11⟩
  · have hn' : ¬ (n : Int) = 0 := by omega
    go_wp2_with fail
    go_returns
    exact ⟨rfl, unhide HL11⟩
set_option maxRecDepth 100000 in
set_option maxHeartbeats 8000000 in
theorem known_walk2 (c k x y : Int) (w : World) (hpc : pickI c 4 = 2) (hc : Rng c) (hk : Rng k) (hx : Rng x) (hy : Rng y) (hT : Tab w) (hw0 : 0 < w.heap.size) :
    Calls Tryd.prog 7 #[.int .i64 c, .int .i64 k, .int .i64 x, .int .i64 y] w fun e w' => e = .returned (.bool true) ∧ Below w.heap.size w w' := by
  have KP := hide (fun (c n : Int) (w : World) (h : Rng c) (hn : 0 < n) => pick_any c n w h.1 h.2 hn)
  have HPC := hide hpc
  have bA := pick_lt x 65536 (by decide)
  have bB := pick_lt y 1001 (by decide)
  obtain ⟨A, hA⟩ : ∃ A : Nat, (A : Int) = pickI x 65536 := ⟨(pickI x 65536).toNat, by omega⟩
  obtain ⟨B, hB⟩ : ∃ B : Nat, (B : Int) = pickI y 1001 := ⟨(pickI y 1001).toNat, by omega⟩
  have hA' : A ≤ 65535 := by omega
  have hB' : B ≤ 1000 := by omega
  have HAE := hide hA
  have HBE := hide hB
  have bK := pick_lt k 15 (by decide)
  obtain ⟨K, hKe⟩ : ∃ K : Nat, (K : Int) = 2 + pickI k 15 := ⟨(2 + pickI k 15).toNat, by omega⟩
  have hK : 2 ≤ K := by omega
  have hK' : K ≤ 16 := by omega
  have HKE := hide hKe
  clear hKe hA hB hpc bA bB
  obtain ⟨hEa, hEb⟩ := kn_all (c := 2) (by decide) (a := A) (b := B) (by omega) (by omega) (fun h => by omega) (fun h => by omega) hK hK'
  have hp : RightP (2 : Nat) (5 : Nat) (2 : Nat) (knL 2) := knL_right
  have KN := hide (known_any 2 (by decide) w)
  have KE := hide (fun w => ends_any 2 (by decide) A B (by omega) (by omega) w)
  have hxa := kn_args (a := A) (b := B) (by omega) (by omega)
  obtain ⟨L, hL⟩ : ∃ L, L = knL 2 := ⟨_, rfl⟩
  rw [← hL] at hEa hEb hp KN
  clear hL
  obtain ⟨v, hv⟩ : ∃ v, v = endV 2 A B := ⟨_, rfl⟩
  obtain ⟨n, hn⟩ : ∃ n, n = endN 2 A B := ⟨_, rfl⟩
  have hnb : n ≤ 65535 := by rw [hn]; show B ≤ 65535; omega
  rw [← hv, ← hn] at hEa hEb
  rw [← hv, ← hn] at KE
  clear hv hn
  have HT := hide hT
  clear hT
  go_enter Tryd.func7, Tryd.ntmps7
  go_wp2_with fail
  refine (unhide KP c 4 _ hc (by decide)).mono ?_
  rintro _ w1 ⟨rfl, hw1⟩
  rw [hw1, unhide HPC]
  clear hw1
  go_wp2_with fail
  refine (unhide KP k 15 _ hk (by decide)).mono ?_
  rintro _ w1 ⟨rfl, hw1⟩
  rw [hw1]
  clear hw1
  go_wp2_with fail
  refine (unhide KP x 65536 _ hx (by decide)).mono ?_
  rintro _ w1 ⟨rfl, hw1⟩
  rw [hw1, ← unhide HAE]
  clear hw1
  go_wp2_with fail
  refine (unhide KP y 65536 _ hy (by decide)).mono ?_
  rintro _ w1 ⟨rfl, hw1⟩
  rw [hw1]
  clear hw1
  go_wp2_with fail
  refine (unhide KP y 1001 _ hy (by decide)).mono ?_
  rintro _ w1 ⟨rfl, hw1⟩
  rw [hw1, ← unhide HBE]
  clear hw1
  go_wp2_with fail
  refine (unhide KN).mono ?_
  rintro _ w2 ⟨ao, cap, rfl, hH2, hb2⟩
  have hz2 := hb2.size
  obtain ⟨w3, hw3, HP3, HL3', hz3⟩ := box_prog w2 2 5 2 (.slice ao L.length cap)
  have HW3 := hide hw3
  clear hw3 KN
  go_upto_region 10 with fail
  rw [← unhide HW3]
  obtain ⟨w4, hw4, HA4, HL4', hz4⟩ := box_args w3 A B
  have HW4 := hide hw4
  clear hw4
  rw [hz3] at HA4
  have hb4 : Below w2.heap.size w2 w4 := (unhide HL3').trans ((unhide HL4').mono (by omega))
  have HL4 : Hid (Below w.heap.size w w4) := hb2.trans (hb4.mono hz2)
  obtain ⟨xs, hxs⟩ : ∃ xs, xs = [(A : Int), (B : Int)] := ⟨_, rfl⟩
  have hxl : xs.length = 2 := by rw [hxs]; rfl
  rw [← hxs] at hEa hEb hxa HA4
  have HLP4 : Hid (LabP w4 w2.heap.size 2 5 2 L ao cap (some ⟨w2.heap.size + 1, 0, none⟩) xs) := ⟨((unhide HL4').block _ (by omega)).trans (unhide HP3), hH2.below' hb4, unhide HA4, (unhide HT).below (unhide HL4) hw0, by omega⟩
  clear hxs hH2 hb2 hb4 HP3 HL3' HL4' HA4 HT
  have hp2 : ((2 : Nat) : Int) = 2 := rfl
  have hp5 : ((5 : Nat) : Int) = 5 := rfl
  have KY := hide (ready_any 2 5 2 K L ao (some ⟨w2.heap.size + 1, 0, none⟩) cap 2 xs w4 hp hK hK' hxa (unhide HLP4).code (unhide HLP4).args (unhide HLP4).tab (unhide HLP4).pos)
  rw [hp2, hp5, hxl] at KY
  go_upto_region 11 with fail
  rw [← unhide HW4]
  have q0 : w4.cell? ⟨w2.heap.size, 0, none⟩ = some (.int .i64 2) := (unhide HLP4).prog.c0
  have q1 : w4.cell? ⟨w2.heap.size, 1, none⟩ = some (.int .i64 5) := (unhide HLP4).prog.c1
  have q2 : w4.cell? ⟨w2.heap.size, 2, none⟩ = some (.int .i64 2) := (unhide HLP4).prog.c2
  have q3 := (unhide HLP4).prog.c3
  go_wp2_with fail
  rw [← unhide HKE]
  refine (unhide KY).mono ?_
  rintro _ w6 ⟨uo, uc, rfl, hH6, _, hb6⟩
  unfold unitV
  rw [hp2]
  clear q0 q1 q2 q3 KY
  obtain ⟨w7, hw7, HU7', HL7', hz7⟩ := box_unit w6 K (slotsB L 2 5 K) 2 2 (.slice uo (cmpC 2 5 K L).length uc) (encT (cmpR 2 5 2 K L))
  have HLU7 : Hid (LabU w7 w6.heap.size 2 5 2 K L uo uc) := ⟨unhide HU7', hH6.below' (unhide HL7')⟩
  have hb57 : Below w4.heap.size w4 w7 := hb6.trans ((unhide HL7').mono hb6.size)
  have HLP7 := hide ((unhide HLP4).below hb57)
  have HL7 : Hid (Below w.heap.size w w7) := (unhide HL4).trans (hb57.mono (unhide HL4).size)
  have HW7 := hide hw7
  clear hw7 hb6 hb57 hH6 HLP4 HL4 HU7' HL7' HW4 HW3
  have KA := hide (fun w (h : LabP w w2.heap.size 2 5 2 L ao cap (some ⟨w2.heap.size + 1, 0, none⟩) xs) => lab_run hp hxa ao (some ⟨w2.heap.size + 1, 0, none⟩) cap 2 20000 (by omega) w h.code h.args h.tab h.pos)
  have KB := hide (fun w (h : LabP w w2.heap.size 2 5 2 L ao cap (some ⟨w2.heap.size + 1, 0, none⟩) xs) (h' : LabU w w6.heap.size 2 5 2 K L uo uc) => lab_mach hp hK hK' hxa uo (some ⟨w2.heap.size + 1, 0, none⟩) uc 2 80004 (by omega) w h'.code h.args h.tab h.pos)
  obtain ⟨sa, hsa⟩ : ∃ sa, sa = runSt L 20000 (st0 xs) := ⟨_, rfl⟩
  obtain ⟨sb, hsb⟩ : ∃ sb, sb = runSt (cmpC 2 5 K L) 80004 (stU (cmpR 2 5 2 K L) none xs) := ⟨_, rfl⟩
  rw [← hsa] at KA hEa
  rw [← hsb] at KB hEb
  rw [show ((20000 : Nat) : Int) = 20000 from rfl, hp2, hp5, hxl] at KA
  rw [show ((80004 : Nat) : Int) = 80004 from rfl, hp2, hxl] at KB
  clear hsa hsb
  obtain ⟨S, hS⟩ : ∃ S, S = slotsB L 2 5 K := ⟨_, rfl⟩
  obtain ⟨C, hC⟩ : ∃ C, C = cmpC 2 5 K L := ⟨_, rfl⟩
  obtain ⟨T, hTe⟩ : ∃ T, T = encT (cmpR 2 5 2 K L) := ⟨_, rfl⟩
  have HSE := hide hS
  have HCE := hide hC
  have HTE := hide hTe
  rw [← hS, ← hC, ← hTe] at KB
  rw [← hS, ← hC, ← hTe] at HW7
  rw [← hS, ← hC, ← hTe]
  clear hS hC hTe
  go_upto_region 12 with fail
  rw [← unhide HW7]
  have q0 : w7.cell? ⟨w2.heap.size, 0, none⟩ = some (.int .i64 2) := (unhide HLP7).prog.c0
  have q1 : w7.cell? ⟨w2.heap.size, 1, none⟩ = some (.int .i64 5) := (unhide HLP7).prog.c1
  have q2 : w7.cell? ⟨w2.heap.size, 2, none⟩ = some (.int .i64 2) := (unhide HLP7).prog.c2
  have q3 := (unhide HLP7).prog.c3
  go_wp2_with fail
  refine (unhide KA w7 (unhide HLP7)).mono ?_
  rintro _ w8 hpost
  obtain ⟨o1, c1, o2, c2, rfl, w9, hw9, HA9, HB9, hz8⟩ := after_run hpost
  have HW9 := hide hw9
  have HLP9 := hide ((unhide HLP7).below (unhide HB9))
  have HLU9 := hide ((unhide HLU7).below (unhide HB9))
  have HL9 : Hid (Below w.heap.size w w9) := (unhide HL7).trans ((unhide HB9).mono (unhide HL7).size)
  clear hw9 hpost q0 q1 q2 q3 HLP7 HLU7 HL7 HB9 KA HW7
  go_upto_region 15 with fail
  rw [← unhide HW9]
  obtain ⟨u0, u1, u2, u3, u4, u5⟩ := labu_cells (unhide HLU9)
  rw [← unhide HSE] at u1
  rw [hp2] at u2 u3
  rw [← unhide HCE] at u4
  rw [← unhide HTE] at u5
  go_wp2_with fail
  refine (unhide KB w9 (unhide HLP9) (unhide HLU9)).mono ?_
  rintro _ w10 hpost
  obtain ⟨o3, c3, o4, c4, rfl, w11, hw11, HB11, HL11', hz10⟩ := after_run hpost
  have HW11 := hide hw11
  have HA11 := hide ((unhide HA9).below (unhide HL11'))
  have HL11 : Hid (Below w.heap.size w w11) := (unhide HL9).trans ((unhide HL11').mono (unhide HL9).size)
  clear hw11 hpost u0 u1 u2 u3 u4 u5 HLP9 HLU9 HL9 HA9 HL11' KB HW9 HSE HCE HTE
  go_upto_region 16 with fail
  rw [← unhide HW11]
  go_wp2_with fail
  refine (unhide KE _).mono ?_
  rintro _ w12 ⟨rfl, hw12⟩
  rw [hw12]
  clear hw12 KE HW11 hp hxa
  have a0 := (unhide HA11).c0
  have a1 := (unhide HA11).c1
  have a4 := (unhide HA11).c4
  have b0 := (unhide HB11).c0
  have b1 := (unhide HB11).c1
  have b4 := (unhide HB11).c4
  rw [hEa.len] at a4
  rw [hEb.len] at b4
  rcases Int.lt_or_le v 0 with hv | hv
  · rw [hEa.trap hv] at a0
    rw [hEb.trap hv] at b0
    clear hEa hEb
    go_wp2_with fail
    go_returns
    exact ⟨rfl, unhide HL11⟩
  rw [(hEa.ret hv).1] at a0
  rw [(hEa.ret hv).2] at a1
  rw [(hEb.ret hv).1] at b0
  rw [(hEb.ret hv).2] at b1
  have hv' : ¬ v < 0 := by omega
  cases n with
  | zero =>
    clear hEa hEb
    go_wp2_with fail
    go_returns
    exact ⟨rfl, unhide HL11⟩
  | succ m =>
    have hmx : m < 100000 := by omega
    obtain ⟨g1, f1, rfl, x1⟩ := last_cell (unhide HA11) hEa (by decide) (j := 0) rfl (by decide)
    obtain ⟨g2, f2, rfl, x2⟩ := last_cell (unhide HB11) hEb (by decide) (j := 0) rfl (by decide)
    rw [Nat.add_zero] at x1 x2
    have hn' : ¬ ((m + 1 : Nat) : Int) = 0 := by omega
    have wn : IntKind.i64.wrap (((m + 1 : Nat) : Int) - 1) = (m : Int) := by rw [wrap_id (by omega) (by omega)]; omega
    have m1 : (m : Int) < ((m + 1 : Nat) : Int) := by omega
    have m0 : (0 : Int) ≤ (m : Int) := by omega
    clear hEa hEb
    go_wp2_with fail
    go_returns
    exact ⟨rfl, unhide HL11⟩
set_option maxRecDepth 100000 in
set_option maxHeartbeats 8000000 in
theorem known_walk3 (c k x y : Int) (w : World) (hpc : pickI c 4 = 3) (hc : Rng c) (hk : Rng k) (hx : Rng x) (hy : Rng y) (hT : Tab w) (hw0 : 0 < w.heap.size) :
    Calls Tryd.prog 7 #[.int .i64 c, .int .i64 k, .int .i64 x, .int .i64 y] w fun e w' => e = .returned (.bool true) ∧ Below w.heap.size w w' := by
  have KP := hide (fun (c n : Int) (w : World) (h : Rng c) (hn : 0 < n) => pick_any c n w h.1 h.2 hn)
  have HPC := hide hpc
  have bA := pick_lt x 65536 (by decide)
  have bB := pick_lt y 65536 (by decide)
  obtain ⟨A, hA⟩ : ∃ A : Nat, (A : Int) = pickI x 65536 := ⟨(pickI x 65536).toNat, by omega⟩
  obtain ⟨B, hB⟩ : ∃ B : Nat, (B : Int) = pickI y 65536 := ⟨(pickI y 65536).toNat, by omega⟩
  have hA' : A ≤ 65535 := by omega
  have hB' : B ≤ 65535 := by omega
  have HAE := hide hA
  have HBE := hide hB
  have bK := pick_lt k 15 (by decide)
  obtain ⟨K, hKe⟩ : ∃ K : Nat, (K : Int) = 2 + pickI k 15 := ⟨(2 + pickI k 15).toNat, by omega⟩
  have hK : 2 ≤ K := by omega
  have hK' : K ≤ 16 := by omega
  have HKE := hide hKe
  clear hKe hA hB hpc bA bB
  obtain ⟨hEa, hEb⟩ := kn_all (c := 3) (by decide) (a := A) (b := B) (by omega) (by omega) (fun h => by omega) (fun h => by omega) hK hK'
  have hp : RightP (2 : Nat) (5 : Nat) (2 : Nat) (knL 3) := knL_right
  have KN := hide (known_any 3 (by decide) w)
  have KE := hide (fun w => ends_any 3 (by decide) A B (by omega) (by omega) w)
  have hxa := kn_args (a := A) (b := B) (by omega) (by omega)
  obtain ⟨L, hL⟩ : ∃ L, L = knL 3 := ⟨_, rfl⟩
  rw [← hL] at hEa hEb hp KN
  clear hL
  obtain ⟨v, hv⟩ : ∃ v, v = endV 3 A B := ⟨_, rfl⟩
  obtain ⟨n, hn⟩ : ∃ n, n = endN 3 A B := ⟨_, rfl⟩
  have hnb : n ≤ 65535 := by rw [hn]; show (if B = 0 then 0 else 1) ≤ 65535; split <;> omega
  rw [← hv, ← hn] at hEa hEb
  rw [← hv, ← hn] at KE
  clear hv hn
  have HT := hide hT
  clear hT
  go_enter Tryd.func7, Tryd.ntmps7
  go_wp2_with fail
  refine (unhide KP c 4 _ hc (by decide)).mono ?_
  rintro _ w1 ⟨rfl, hw1⟩
  rw [hw1, unhide HPC]
  clear hw1
  go_wp2_with fail
  refine (unhide KP k 15 _ hk (by decide)).mono ?_
  rintro _ w1 ⟨rfl, hw1⟩
  rw [hw1]
  clear hw1
  go_wp2_with fail
  refine (unhide KP x 65536 _ hx (by decide)).mono ?_
  rintro _ w1 ⟨rfl, hw1⟩
  rw [hw1, ← unhide HAE]
  clear hw1
  go_wp2_with fail
  refine (unhide KP y 65536 _ hy (by decide)).mono ?_
  rintro _ w1 ⟨rfl, hw1⟩
  rw [hw1, ← unhide HBE]
  clear hw1
  go_wp2_with fail
  refine (unhide KN).mono ?_
  rintro _ w2 ⟨ao, cap, rfl, hH2, hb2⟩
  have hz2 := hb2.size
  obtain ⟨w3, hw3, HP3, HL3', hz3⟩ := box_prog w2 2 5 2 (.slice ao L.length cap)
  have HW3 := hide hw3
  clear hw3 KN
  go_upto_region 10 with fail
  rw [← unhide HW3]
  obtain ⟨w4, hw4, HA4, HL4', hz4⟩ := box_args w3 A B
  have HW4 := hide hw4
  clear hw4
  rw [hz3] at HA4
  have hb4 : Below w2.heap.size w2 w4 := (unhide HL3').trans ((unhide HL4').mono (by omega))
  have HL4 : Hid (Below w.heap.size w w4) := hb2.trans (hb4.mono hz2)
  obtain ⟨xs, hxs⟩ : ∃ xs, xs = [(A : Int), (B : Int)] := ⟨_, rfl⟩
  have hxl : xs.length = 2 := by rw [hxs]; rfl
  rw [← hxs] at hEa hEb hxa HA4
  have HLP4 : Hid (LabP w4 w2.heap.size 2 5 2 L ao cap (some ⟨w2.heap.size + 1, 0, none⟩) xs) := ⟨((unhide HL4').block _ (by omega)).trans (unhide HP3), hH2.below' hb4, unhide HA4, (unhide HT).below (unhide HL4) hw0, by omega⟩
  clear hxs hH2 hb2 hb4 HP3 HL3' HL4' HA4 HT
  have hp2 : ((2 : Nat) : Int) = 2 := rfl
  have hp5 : ((5 : Nat) : Int) = 5 := rfl
  have KY := hide (ready_any 2 5 2 K L ao (some ⟨w2.heap.size + 1, 0, none⟩) cap 2 xs w4 hp hK hK' hxa (unhide HLP4).code (unhide HLP4).args (unhide HLP4).tab (unhide HLP4).pos)
  rw [hp2, hp5, hxl] at KY
  go_upto_region 11 with fail
  rw [← unhide HW4]
  have q0 : w4.cell? ⟨w2.heap.size, 0, none⟩ = some (.int .i64 2) := (unhide HLP4).prog.c0
  have q1 : w4.cell? ⟨w2.heap.size, 1, none⟩ = some (.int .i64 5) := (unhide HLP4).prog.c1
  have q2 : w4.cell? ⟨w2.heap.size, 2, none⟩ = some (.int .i64 2) := (unhide HLP4).prog.c2
  have q3 := (unhide HLP4).prog.c3
  go_wp2_with fail
  rw [← unhide HKE]
  refine (unhide KY).mono ?_
  rintro _ w6 ⟨uo, uc, rfl, hH6, _, hb6⟩
  unfold unitV
  rw [hp2]
  clear q0 q1 q2 q3 KY
  obtain ⟨w7, hw7, HU7', HL7', hz7⟩ := box_unit w6 K (slotsB L 2 5 K) 2 2 (.slice uo (cmpC 2 5 K L).length uc) (encT (cmpR 2 5 2 K L))
  have HLU7 : Hid (LabU w7 w6.heap.size 2 5 2 K L uo uc) := ⟨unhide HU7', hH6.below' (unhide HL7')⟩
  have hb57 : Below w4.heap.size w4 w7 := hb6.trans ((unhide HL7').mono hb6.size)
  have HLP7 := hide ((unhide HLP4).below hb57)
  have HL7 : Hid (Below w.heap.size w w7) := (unhide HL4).trans (hb57.mono (unhide HL4).size)
  have HW7 := hide hw7
  clear hw7 hb6 hb57 hH6 HLP4 HL4 HU7' HL7' HW4 HW3
  have KA := hide (fun w (h : LabP w w2.heap.size 2 5 2 L ao cap (some ⟨w2.heap.size + 1, 0, none⟩) xs) => lab_run hp hxa ao (some ⟨w2.heap.size + 1, 0, none⟩) cap 2 20000 (by omega) w h.code h.args h.tab h.pos)
  have KB := hide (fun w (h : LabP w w2.heap.size 2 5 2 L ao cap (some ⟨w2.heap.size + 1, 0, none⟩) xs) (h' : LabU w w6.heap.size 2 5 2 K L uo uc) => lab_mach hp hK hK' hxa uo (some ⟨w2.heap.size + 1, 0, none⟩) uc 2 80004 (by omega) w h'.code h.args h.tab h.pos)
  obtain ⟨sa, hsa⟩ : ∃ sa, sa = runSt L 20000 (st0 xs) := ⟨_, rfl⟩
  obtain ⟨sb, hsb⟩ : ∃ sb, sb = runSt (cmpC 2 5 K L) 80004 (stU (cmpR 2 5 2 K L) none xs) := ⟨_, rfl⟩
  rw [← hsa] at KA hEa
  rw [← hsb] at KB hEb
  rw [show ((20000 : Nat) : Int) = 20000 from rfl, hp2, hp5, hxl] at KA
  rw [show ((80004 : Nat) : Int) = 80004 from rfl, hp2, hxl] at KB
  clear hsa hsb
  obtain ⟨S, hS⟩ : ∃ S, S = slotsB L 2 5 K := ⟨_, rfl⟩
  obtain ⟨C, hC⟩ : ∃ C, C = cmpC 2 5 K L := ⟨_, rfl⟩
  obtain ⟨T, hTe⟩ : ∃ T, T = encT (cmpR 2 5 2 K L) := ⟨_, rfl⟩
  have HSE := hide hS
  have HCE := hide hC
  have HTE := hide hTe
  rw [← hS, ← hC, ← hTe] at KB
  rw [← hS, ← hC, ← hTe] at HW7
  rw [← hS, ← hC, ← hTe]
  clear hS hC hTe
  go_upto_region 12 with fail
  rw [← unhide HW7]
  have q0 : w7.cell? ⟨w2.heap.size, 0, none⟩ = some (.int .i64 2) := (unhide HLP7).prog.c0
  have q1 : w7.cell? ⟨w2.heap.size, 1, none⟩ = some (.int .i64 5) := (unhide HLP7).prog.c1
  have q2 : w7.cell? ⟨w2.heap.size, 2, none⟩ = some (.int .i64 2) := (unhide HLP7).prog.c2
  have q3 := (unhide HLP7).prog.c3
  go_wp2_with fail
  refine (unhide KA w7 (unhide HLP7)).mono ?_
  rintro _ w8 hpost
  obtain ⟨o1, c1, o2, c2, rfl, w9, hw9, HA9, HB9, hz8⟩ := after_run hpost
  have HW9 := hide hw9
  have HLP9 := hide ((unhide HLP7).below (unhide HB9))
  have HLU9 := hide ((unhide HLU7).below (unhide HB9))
  have HL9 : Hid (Below w.heap.size w w9) := (unhide HL7).trans ((unhide HB9).mono (unhide HL7).size)
  clear hw9 hpost q0 q1 q2 q3 HLP7 HLU7 HL7 HB9 KA HW7
  go_upto_region 15 with fail
  rw [← unhide HW9]
  obtain ⟨u0, u1, u2, u3, u4, u5⟩ := labu_cells (unhide HLU9)
  rw [← unhide HSE] at u1
  rw [hp2] at u2 u3
  rw [← unhide HCE] at u4
  rw [← unhide HTE] at u5
  go_wp2_with fail
  refine (unhide KB w9 (unhide HLP9) (unhide HLU9)).mono ?_
  rintro _ w10 hpost
  obtain ⟨o3, c3, o4, c4, rfl, w11, hw11, HB11, HL11', hz10⟩ := after_run hpost
  have HW11 := hide hw11
  have HA11 := hide ((unhide HA9).below (unhide HL11'))
  have HL11 : Hid (Below w.heap.size w w11) := (unhide HL9).trans ((unhide HL11').mono (unhide HL9).size)
  clear hw11 hpost u0 u1 u2 u3 u4 u5 HLP9 HLU9 HL9 HA9 HL11' KB HW9 HSE HCE HTE
  go_upto_region 16 with fail
  rw [← unhide HW11]
  go_wp2_with fail
  refine (unhide KE _).mono ?_
  rintro _ w12 ⟨rfl, hw12⟩
  rw [hw12]
  clear hw12 KE HW11 hp hxa
  have a0 := (unhide HA11).c0
  have a1 := (unhide HA11).c1
  have a4 := (unhide HA11).c4
  have b0 := (unhide HB11).c0
  have b1 := (unhide HB11).c1
  have b4 := (unhide HB11).c4
  rw [hEa.len] at a4
  rw [hEb.len] at b4
  rcases Int.lt_or_le v 0 with hv | hv
  · rw [hEa.trap hv] at a0
    rw [hEb.trap hv] at b0
    clear hEa hEb
    go_wp2_with fail
    go_returns
    exact ⟨rfl, unhide HL11⟩
  rw [(hEa.ret hv).1] at a0
  rw [(hEa.ret hv).2] at a1
  rw [(hEb.ret hv).1] at b0
  rw [(hEb.ret hv).2] at b1
  have hv' : ¬ v < 0 := by omega
  cases n with
  | zero =>
    clear hEa hEb
    go_wp2_with fail
    go_returns
    exact ⟨rfl, unhide HL11⟩
  | succ m =>
    have hmx : m < 100000 := by omega
    obtain ⟨g1, f1, rfl, x1⟩ := last_cell (unhide HA11) hEa (by decide) (j := 1) rfl (by decide)
    obtain ⟨g2, f2, rfl, x2⟩ := last_cell (unhide HB11) hEb (by decide) (j := 1) rfl (by decide)
    skip
    have hn' : ¬ ((m + 1 : Nat) : Int) = 0 := by omega
    have wn : IntKind.i64.wrap (((m + 1 : Nat) : Int) - 1) = (m : Int) := by rw [wrap_id (by omega) (by omega)]; omega
    have m1 : (m : Int) < ((m + 1 : Nat) : Int) := by omega
    have m0 : (0 : Int) ≤ (m : Int) := by omega
    clear hEa hEb
    go_wp2_with fail
    go_returns
    exact ⟨rfl, unhide HL11⟩
theorem known_walk (c k x y : Int) (w : World) (hc : Rng c) (hk : Rng k) (hx : Rng x) (hy : Rng y) (hT : Tab w) (hw0 : 0 < w.heap.size) :
    Calls Tryd.prog 7 #[.int .i64 c, .int .i64 k, .int .i64 x, .int .i64 y] w fun e w' => e = .returned (.bool true) ∧ Below w.heap.size w w' := by
  have b := pick_lt c 4 (by decide)
  rcases (show pickI c 4 = 0 ∨ pickI c 4 = 1 ∨ pickI c 4 = 2 ∨ pickI c 4 = 3 by omega) with h | h | h | h
  · exact known_walk0 c k x y w h hc hk hx hy hT hw0
  · exact known_walk1 c k x y w h hc hk hx hy hT hw0
  · exact known_walk2 c k x y w h hc hk hx hy hT hw0
  · exact known_walk3 c k x y w h hc hk hx hy hT hw0
end Go.Proofs.YtoepcplbpochpabDoor
