/-
  Is a register live at an instruction that may come next: lodgeref.liveNext, where an instruction writes; do two registers collide: lodgeref.meets.
-/
import Derived.Test.YtoepcplbpochpaaDoorPiece9
import Derived.Test.YtoepcplbpochpaaDoorPiece12

namespace Go.Proofs.YtoepcplbpochpaaDoor
open Go.RowKit

theorem nxtL_wr {x : In4} {i : Nat} (h : isWr x.op = true) : nxtL x i = [(i : Int) + 1] := by
  unfold isWr isRk at h
  rw [Bool.or_eq_true, Bool.or_eq_true, Bool.and_eq_true, decide_eq_true_iff, decide_eq_true_iff, beq_iff_eq, beq_iff_eq] at h
  unfold nxtL
  rw [if_neg (by omega), if_neg (by omega), if_neg (by omega)]
set_option maxRecDepth 100000 in
set_option maxHeartbeats 8000000 in
theorem liveNext_any (P R V : Int) (L : List In4) (ao : Option Addr) (cap i r : Nat) (hp : RightP P R V L) (hi : i < L.length) (hwr : isWr (inAt L i).op = true) (w : World) (hH : HeldIns w ao L) :
    Calls Tryd.prog 120 #[.agg #[.int .i64 P, .int .i64 R, .int .i64 V, .slice ao L.length cap], .int .i64 i, .int .i64 r] w fun e w' => e = .returned (.bool (liveB L (i + 1) r)) ∧ Below w.heap.size w w' := by
  have hn40 := hp.n40
  have hi1 := (right_wr hp i hi hwr).2.2
  obtain ⟨w1, hw1, HP1, HL1, hz1⟩ := pbox w P R V (.slice ao L.length cap)
  have HW := hide hw1
  have KN := hide (nexts_any P R V L ao cap i hi hn40 w1 (hH.below (unhide HL1)))
  have HNX := hide (nxtL_wr (i := i) hwr)
  have KL := hide (fun w' (h : HeldIns w' ao L) => live_any P R V L ao cap (i + 1) r hp hi1 w' h)
  have HH1 : Hid (HeldIns w1 ao L) := hH.below (unhide HL1)
  have p0 := (unhide HP1).c0
  have p1 := (unhide HP1).c1
  have p2 := (unhide HP1).c2
  have p3 := (unhide HP1).c3
  clear hw1 hp hwr hH
  go_enter Tryd.func120, Tryd.ntmps120
  go_upto_region 1 with fail
  rw [← unhide HW]
  go_wp2_with fail
  refine (unhide KN).mono ?_
  rintro _ w2 ⟨so, sc, rfl, hN, hb2, _⟩
  rw [unhide HNX] at hN
  rw [unhide HNX]
  obtain ⟨bb, oo, rfl, hbb, hc⟩ : ∃ b off, so = some ⟨b, off, none⟩ ∧ b < w2.heap.size ∧ ∀ k, k < 1 → w2.cell? ⟨b, off + k, none⟩ = some (.int .i64 (nth [(i : Int) + 1] k)) := by
    rcases hN with h | h
    · cases h
    · exact h
  have HB2 : Hid (ProgB w2 w.heap.size P R V (.slice ao L.length cap)) := (unhide HP1).below hb2
  have HL2 : Hid (Below w.heap.size w w2) := (unhide HL1).trans (hb2.mono (by omega))
  have HH2 : Hid (HeldIns w2 ao L) := (unhide HH1).below hb2
  have HC2 : Hid (w2.cell? ⟨bb, oo, none⟩ = some (.int .i64 ((i : Int) + 1))) := hc 0 (by decide)
  clear hc hN hb2 p0 p1 p2 p3 HP1 HL1 HH1 KN
  go_wp2_with fail
  go_loopw [8] (fun i' wr => ∃ k : Nat, k ≤ 1 ∧ i' = .int .i64 k ∧ (k = 1 → liveB L (i + 1) r = false) ∧ Hid (ProgB wr w.heap.size P R V (.slice ao L.length cap)) ∧ Hid (Below w.heap.size w wr) ∧ Hid (HeldIns wr ao L) ∧ Hid (wr.cell? ⟨bb, oo, none⟩ = some (.int .i64 ((i : Int) + 1))) ∧ bb < wr.heap.size) (fun i' _ => 1 - (intOf i').toNat)
  case atStart => exact ⟨0, by omega, rfl, fun h => absurd h (by decide), unhide HB2, unhide HL2, unhide HH2, unhide HC2, hbb⟩
  case round =>
    clear HB2 HL2 HH2 HC2
    obtain ⟨k, hk, rfl, HF', HB, HL, HH, HC, hbw⟩ := hrel
    have HF := hide HF'
    clear HF'
    rcases (show k = 0 ∨ k = 1 by omega) with rfl | rfl
    · have p0 := (unhide HB).c0
      have p1 := (unhide HB).c1
      have p2 := (unhide HB).c2
      have p3 := (unhide HB).c3
      have c0 := unhide HC
      have hwl : w.heap.size < wr.heap.size := (unhide HB).lt
      obtain ⟨t, ht⟩ : ∃ t, t = liveB L (i + 1) r := ⟨_, rfl⟩
      rw [← ht] at KL
      have HTL := hide ht
      have HBL := hide (And.intro hwl hbw)
      clear ht
      go_wp2_with fail
      go_region_held3 (fun w' => w'.cell? ⟨w.heap.size, 0, none⟩ = some (.int .i64 P) ∧ w'.cell? ⟨w.heap.size, 1, none⟩ = some (.int .i64 R) ∧ w'.cell? ⟨w.heap.size, 2, none⟩ = some (.int .i64 V) ∧ w'.cell? ⟨w.heap.size, 3, none⟩ = some (.slice ao L.length cap) ∧ w'.cell? ⟨bb, oo, none⟩ = some (.int .i64 ((i : Int) + 1))) (first | assumption | (exact ⟨p0, p1, p2, p3, c0⟩) | (exact ⟨z0, z1, z2, z3, z4⟩))
        ((go_at_call 76; refine (unhide KL wr.drew (unhide HH)).mono ?_; rintro e w5 ⟨rfl, hb5'⟩; have hb5 : Below wr.heap.size wr w5 := ⟨hb5'.os, hb5'.tape, hb5'.output, hb5'.size, hb5'.block⟩; clear hb5'; have HB5 := hide ((unhide HB).below hb5); have HL5 : Hid (Below w.heap.size w w5) := (unhide HL).trans (hb5.mono (unhide HL).size); have HH5 : Hid (HeldIns w5 ao L) := (unhide HH).below hb5; have hbw5 : bb < w5.heap.size := Nat.lt_of_lt_of_le hbw hb5.size; have z4 : w5.cell? ⟨bb, oo, none⟩ = some (.int .i64 ((i : Int) + 1)) := (hb5.cell (p := ⟨bb, oo, none⟩) hbw).trans c0; have z0 := (unhide HB5).c0; have z1 := (unhide HB5).c1; have z2 := (unhide HB5).c2; have z3 := (unhide HB5).c3; clear p0 p1 p2 p3 c0 hb5))
      cases t
      · go_wp2_with fail
        go_roundw
        case rel => exact ⟨1, by omega, rfl, fun _ => (unhide HTL).symm, unhide HB5, unhide HL5, unhide HH5, z4, hbw5⟩
        case measure => simp [intOf]
      · go_wp2_with fail
        go_ret
        exact ⟨ret_bool (unhide HTL), unhide HL5⟩
    · have HE := hide ((unhide HF) rfl)
      go_wp2_with fail
      go_ret
      exact ⟨ret_bool (unhide HE).symm, unhide HL⟩
end Go.Proofs.YtoepcplbpochpaaDoor

/-
  Do two registers collide: lodgeref.meets.
-/
namespace Go.Proofs.YtoepcplbpochpaaDoor
open Go.RowKit

/-- A program that was boxed, and its code. -/
structure PB (w wr : World) (P R V : Int) (L : List In4) (ao : Option Addr) (cap : Nat) : Prop where
  p : ProgB wr w.heap.size P R V (.slice ao L.length cap)
  code : HeldIns wr ao L
  bel : Below w.heap.size w wr
theorem PB.next {w wr w' : World} {P R V : Int} {L : List In4} {ao : Option Addr} {cap : Nat} (h : PB w wr P R V L ao cap) (hb : Below wr.heap.size wr w') : PB w w' P R V L ao cap := ⟨h.p.below hb, h.code.below hb, h.bel.trans (hb.mono h.bel.size)⟩
theorem pb_start (w : World) (P R V : Int) (L : List In4) (ao : Option Addr) (cap : Nat) (hH : HeldIns w ao L) : ∃ w1, w1 = w.alloc (.cells #[.int .i64 P, .int .i64 R, .int .i64 V, .slice ao L.length cap] 24) ∧ Hid (PB w w1 P R V L ao cap) ∧ w1.heap.size = w.heap.size + 1 :=
  ⟨_, rfl, ⟨progb_alloc w P R V _, hH.below (below_alloc _ _), below_alloc _ _⟩, by simp⟩
theorem PB.at4 {w wr : World} {P R V : Int} {L : List In4} {b off : Nat} {cap : Nat} (h : PB w wr P R V L (some ⟨b, off, none⟩) cap) {k : Nat} (hk : k < L.length) : At4 wr b (off + k * 4) (inAt L k) := by
  rcases h.code with e | ⟨b', off', e, _, hc⟩
  · rw [e] at hk; exact absurd hk (Nat.not_lt_zero _)
  · injection e with e
    injection e with e1 e2
    subst e1; subst e2
    exact hc k hk
/-- No instruction of the first makes them collide. -/
def noHit (L : List In4) (a b k : Nat) : Prop := ∀ i, i < k → ¬ (isWr (inAt L i).op = true ∧ (((inAt L i).d = (a : Int) ∧ liveB L (i + 1) b = true) ∨ ((inAt L i).d = (b : Int) ∧ liveB L (i + 1) a = true)))
theorem wrB_parts {x : In4} {r : Int} (h : wrB x r = true) : isWr x.op = true ∧ x.d = r := by
  unfold wrB at h; rw [Bool.and_eq_true, beq_iff_eq] at h; exact h
theorem hit_yes {L : List In4} {R a b k : Nat} (ha : a < R) (hk : k < L.length) (h : wrB (inAt L k) a = true) (hl : liveB L (k + 1) b = true) : hitB L R a b = true :=
  (hit_iff L R ha).2 (.inr ⟨k, hk, (wrB_parts h).1, .inl ⟨(wrB_parts h).2, hl⟩⟩)
theorem hit_yes2 {L : List In4} {R a b k : Nat} (ha : a < R) (hk : k < L.length) (h : wrB (inAt L k) b = true) (hl : liveB L (k + 1) a = true) : hitB L R a b = true :=
  (hit_iff L R ha).2 (.inr ⟨k, hk, (wrB_parts h).1, .inr ⟨(wrB_parts h).2, hl⟩⟩)
theorem hit_no {L : List In4} {R a b : Nat} (ha : a < R) (h0 : ¬ (liveB L 0 a = true ∧ liveB L 0 b = true)) (h : noHit L a b L.length) : hitB L R a b = false := by
  cases e : hitB L R a b with
  | false => rfl
  | true =>
    rcases (hit_iff L R ha).1 e with g | ⟨i, hi, g1, g2⟩
    · exact absurd g h0
    · exact absurd ⟨g1, g2⟩ (h i hi)
theorem noHit.succ {L : List In4} {a b k : Nat} (h : noHit L a b k) (h1 : wrB (inAt L k) a = false ∨ liveB L (k + 1) b = false) (h2 : wrB (inAt L k) b = false ∨ liveB L (k + 1) a = false) : noHit L a b (k + 1) := fun i hi => by
  by_cases e : i = k
  · subst e
    rintro ⟨g1, ⟨g2, g3⟩ | ⟨g2, g3⟩⟩
    · have : wrB (inAt L i) a = true := by unfold wrB; rw [g1, g2, beq_self_eq_true]; rfl
      rcases h1 with h1 | h1
      · rw [h1] at this; cases this
      · rw [h1] at g3; cases g3
    · have : wrB (inAt L i) b = true := by unfold wrB; rw [g1, g2, beq_self_eq_true]; rfl
      rcases h2 with h2 | h2
      · rw [h2] at this; cases this
      · rw [h2] at g3; cases g3
  · exact h i (by omega)

set_option maxRecDepth 100000 in
set_option maxHeartbeats 8000000 in
theorem meets_any (P V : Int) (R : Nat) (L : List In4) (ao : Option Addr) (cap a b : Nat) (hp : RightP P R V L) (ha : a < R) (_hb : b < R) (w : World) (hH : HeldIns w ao L) :
    Calls Tryd.prog 94 #[.agg #[.int .i64 P, .int .i64 R, .int .i64 V, .slice ao L.length cap], .int .i64 a, .int .i64 b] w fun e w' => e = .returned (.bool (hitB L R a b)) ∧ Below w.heap.size w w' := by
  have hn40 := hp.n40
  have hn1 := hp.n1
  obtain ⟨bb, off, rfl, hbb, hI⟩ := held_at hH hp.n1
  obtain ⟨w1, hw1, HB1, hz1⟩ := pb_start w P R V L (some ⟨bb, off, none⟩) cap hH
  have HW := hide hw1
  have KL := hide (fun (r : Nat) w' (h : HeldIns w' (some ⟨bb, off, none⟩) L) => live_any P R V L (some ⟨bb, off, none⟩) cap 0 r hp hn1 w' h)
  have KX := hide (fun (k r : Nat) (hk : k < L.length) (hwr : isWr (inAt L k).op = true) w' (h : HeldIns w' (some ⟨bb, off, none⟩) L) => liveNext_any P R V L (some ⟨bb, off, none⟩) cap k r hp hk hwr w' h)
  have KW := hide refWrites_any
  have HOP : Hid (∀ k, k < L.length → 0 ≤ (inAt L k).op ∧ (inAt L k).op ≤ 14) := fun k hk => ⟨(hp.ins k hk).1, hp.low k hk⟩
  clear hw1 hp hH hI hn1
  go_enter Tryd.func94, Tryd.ntmps94
  go_upto_region 1 with fail
  rw [← unhide HW]
  have p0 := (unhide HB1).p.c0
  have p1 := (unhide HB1).p.c1
  have p2 := (unhide HB1).p.c2
  have p3 := (unhide HB1).p.c3
  go_wp2_with fail
  refine (unhide KL a w1 (unhide HB1).code).mono ?_
  rintro _ w2 ⟨rfl, hb2⟩
  have HB2 := hide ((unhide HB1).next hb2)
  clear p0 p1 p2 p3 hb2 HB1
  have p0 := (unhide HB2).p.c0
  have p1 := (unhide HB2).p.c1
  have p2 := (unhide HB2).p.c2
  have p3 := (unhide HB2).p.c3
  go_wp2_with fail
  refine (unhide KL b w2 (unhide HB2).code).mono ?_
  rintro _ w3 ⟨rfl, hb3⟩
  have HB3 := hide ((unhide HB2).next hb3)
  clear p0 p1 p2 p3 hb3 HB2
  have p3 := (unhide HB3).p.c3
  obtain ⟨ta, hta⟩ : ∃ t, t = liveB L 0 a := ⟨_, rfl⟩
  obtain ⟨tb, htb⟩ : ∃ t, t = liveB L 0 b := ⟨_, rfl⟩
  rw [← hta, ← htb]
  have HTA := hide hta
  have HTB := hide htb
  clear hta htb
  by_cases hboth : ta = true ∧ tb = true
  · obtain ⟨rfl, rfl⟩ := hboth
    have HE := hide ((hit_iff L R (b := b) ha).2 (.inl ⟨(unhide HTA).symm, (unhide HTB).symm⟩))
    go_wp2_with fail
    go_ret
    exact ⟨ret_bool (unhide HE).symm, (unhide HB3).bel⟩
  have HN0 : Hid (¬ (liveB L 0 a = true ∧ liveB L 0 b = true)) := fun h => hboth ⟨(unhide HTA).trans h.1, (unhide HTB).trans h.2⟩
  cases ta
  · clear HTA HTB hboth
    go_wp2_with fail
    go_loopw [9] (fun i' wr => ∃ k : Nat, k ≤ L.length ∧ i' = .int .i64 k ∧ Hid (noHit L a b k) ∧ Hid (PB w wr P R V L (some ⟨bb, off, none⟩) cap)) (fun i' _ => L.length - (intOf i').toNat)
    case atStart => exact ⟨0, Nat.zero_le _, rfl, fun i hi => absurd hi (Nat.not_lt_zero _), unhide HB3⟩
    case round =>
      clear HB3
      obtain ⟨k, hk, rfl, HNH, HB⟩ := hrel
      have p3 := (unhide HB).p.c3
      by_cases hlt : k < L.length
      case neg =>
        obtain rfl : k = L.length := by omega
        have HE := hide (hit_no ha (unhide HN0) (unhide HNH))
        go_wp2_with fail
        go_ret
        exact ⟨ret_bool (unhide HE).symm, (unhide HB).bel⟩
      have hki : (k : Int) < (L.length : Int) := by omega
      have hk0 : (0 : Int) ≤ (k : Int) := by omega
      have ho := unhide HOP k hlt
      obtain ⟨q0, q1, q2, q3⟩ := (unhide HB).at4 hlt
      obtain ⟨x, hx⟩ : ∃ x, x = inAt L k := ⟨_, rfl⟩
      rw [← hx] at q0 q1 q2 q3 ho
      obtain ⟨op, d, xa, xb⟩ := x
      simp only at q0 q1 q2 q3 ho
      have HO1 := hide ho
      have HX := hide hx
      clear ho hx
      obtain ⟨tu, htu⟩ : ∃ t, t = wrB ⟨op, d, xa, xb⟩ a := ⟨_, rfl⟩
      obtain ⟨tv, htv⟩ : ∃ t, t = wrB ⟨op, d, xa, xb⟩ b := ⟨_, rfl⟩
      have KW1 := hide (unhide KW op d xa xb a (unhide HO1) wr)
      rw [← htu] at KW1
      have HTU := hide htu
      have HTV := hide htv
      clear htu htv
      go_wp2_with fail
      refine (unhide KW1).mono ?_
      rintro _ w5 ⟨rfl, hb5⟩
      have HB5 := hide ((unhide HB).next hb5)
      clear q0 q1 q2 q3 p3 hb5 KW1
      cases tu
      · have p3 := (unhide HB5).p.c3
        obtain ⟨q0, q1, q2, q3⟩ := (unhide HB5).at4 hlt
        rw [← unhide HX] at q0 q1 q2 q3
        simp only at q0 q1 q2 q3
        have KW2 := hide (unhide KW op d xa xb b (unhide HO1) w5)
        rw [← unhide HTV] at KW2
        go_wp2_with fail
        refine (unhide KW2).mono ?_
        rintro _ w8 ⟨rfl, hb8⟩
        have HB8 := hide ((unhide HB5).next hb8)
        clear q0 q1 q2 q3 p3 hb8 KW2
        cases tv
        · go_wp2_with fail
          go_roundw
          case rel => exact ⟨k + 1, by omega, by go_num, (unhide HNH).succ (.inl (by rw [← unhide HX]; exact (unhide HTU).symm)) (.inl (by rw [← unhide HX]; exact (unhide HTV).symm)), unhide HB8⟩
          case measure => simp [intOf]; omega
        · have KX2 := hide (unhide KX k a hlt (by rw [← unhide HX]; exact (wrB_parts (unhide HTV).symm).1) w8 (unhide HB8).code)
          have p0 := (unhide HB8).p.c0
          have p1 := (unhide HB8).p.c1
          have p2 := (unhide HB8).p.c2
          have p3 := (unhide HB8).p.c3
          obtain ⟨tl, htl⟩ : ∃ t, t = liveB L (k + 1) a := ⟨_, rfl⟩
          rw [← htl] at KX2
          have HTL := hide htl
          clear htl
          go_wp2_with fail
          refine (unhide KX2).mono ?_
          rintro _ w9 ⟨rfl, hb9⟩
          have HB9 := hide ((unhide HB8).next hb9)
          clear p0 p1 p2 p3 hb9 KX2
          cases tl
          · go_wp2_with fail
            go_roundw
            case rel => exact ⟨k + 1, by omega, by go_num, (unhide HNH).succ (.inl (by rw [← unhide HX]; exact (unhide HTU).symm)) (.inr (unhide HTL).symm), unhide HB9⟩
            case measure => simp [intOf]; omega
          · have HE := hide (hit_yes2 (b := b) ha hlt (by rw [← unhide HX]; exact (unhide HTV).symm) (unhide HTL).symm)
            go_wp2_with fail
            go_ret
            exact ⟨ret_bool (unhide HE).symm, (unhide HB9).bel⟩
      · have KX1 := hide (unhide KX k b hlt (by rw [← unhide HX]; exact (wrB_parts (unhide HTU).symm).1) w5 (unhide HB5).code)
        have p0 := (unhide HB5).p.c0
        have p1 := (unhide HB5).p.c1
        have p2 := (unhide HB5).p.c2
        have p3 := (unhide HB5).p.c3
        obtain ⟨tb, htb⟩ : ∃ t, t = liveB L (k + 1) b := ⟨_, rfl⟩
        rw [← htb] at KX1
        have HTB := hide htb
        clear htb
        go_wp2_with fail
        refine (unhide KX1).mono ?_
        rintro _ w6 ⟨rfl, hb6⟩
        have HB6 := hide ((unhide HB5).next hb6)
        clear p0 p1 p2 p3 hb6 KX1
        cases tb
        · have p3 := (unhide HB6).p.c3
          obtain ⟨q0, q1, q2, q3⟩ := (unhide HB6).at4 hlt
          rw [← unhide HX] at q0 q1 q2 q3
          simp only at q0 q1 q2 q3
          have KW2 := hide (unhide KW op d xa xb b (unhide HO1) w6)
          rw [← unhide HTV] at KW2
          go_wp2_with fail
          refine (unhide KW2).mono ?_
          rintro _ w8 ⟨rfl, hb8⟩
          have HB8 := hide ((unhide HB6).next hb8)
          clear q0 q1 q2 q3 p3 hb8 KW2
          cases tv
          · go_wp2_with fail
            go_roundw
            case rel => exact ⟨k + 1, by omega, by go_num, (unhide HNH).succ (.inr (unhide HTB).symm) (.inl (by rw [← unhide HX]; exact (unhide HTV).symm)), unhide HB8⟩
            case measure => simp [intOf]; omega
          · have KX2 := hide (unhide KX k a hlt (by rw [← unhide HX]; exact (wrB_parts (unhide HTV).symm).1) w8 (unhide HB8).code)
            have p0 := (unhide HB8).p.c0
            have p1 := (unhide HB8).p.c1
            have p2 := (unhide HB8).p.c2
            have p3 := (unhide HB8).p.c3
            obtain ⟨tl, htl⟩ : ∃ t, t = liveB L (k + 1) a := ⟨_, rfl⟩
            rw [← htl] at KX2
            have HTL := hide htl
            clear htl
            go_wp2_with fail
            refine (unhide KX2).mono ?_
            rintro _ w9 ⟨rfl, hb9⟩
            have HB9 := hide ((unhide HB8).next hb9)
            clear p0 p1 p2 p3 hb9 KX2
            cases tl
            · go_wp2_with fail
              go_roundw
              case rel => exact ⟨k + 1, by omega, by go_num, (unhide HNH).succ (.inr (unhide HTB).symm) (.inr (unhide HTL).symm), unhide HB9⟩
              case measure => simp [intOf]; omega
            · have HE := hide (hit_yes2 (b := b) ha hlt (by rw [← unhide HX]; exact (unhide HTV).symm) (unhide HTL).symm)
              go_wp2_with fail
              go_ret
              exact ⟨ret_bool (unhide HE).symm, (unhide HB9).bel⟩
        · have HE := hide (hit_yes (b := b) ha hlt (by rw [← unhide HX]; exact (unhide HTU).symm) (unhide HTB).symm)
          go_wp2_with fail
          go_ret
          exact ⟨ret_bool (unhide HE).symm, (unhide HB6).bel⟩
  · obtain rfl : tb = false := by cases tb; rfl; exact absurd ⟨rfl, rfl⟩ hboth
    clear HTA HTB hboth
    go_wp2_with fail
    go_loopw [9] (fun i' wr => ∃ k : Nat, k ≤ L.length ∧ i' = .int .i64 k ∧ Hid (noHit L a b k) ∧ Hid (PB w wr P R V L (some ⟨bb, off, none⟩) cap)) (fun i' _ => L.length - (intOf i').toNat)
    case atStart => exact ⟨0, Nat.zero_le _, rfl, fun i hi => absurd hi (Nat.not_lt_zero _), unhide HB3⟩
    case round =>
      clear HB3
      obtain ⟨k, hk, rfl, HNH, HB⟩ := hrel
      have p3 := (unhide HB).p.c3
      by_cases hlt : k < L.length
      case neg =>
        obtain rfl : k = L.length := by omega
        have HE := hide (hit_no ha (unhide HN0) (unhide HNH))
        go_wp2_with fail
        go_ret
        exact ⟨ret_bool (unhide HE).symm, (unhide HB).bel⟩
      have hki : (k : Int) < (L.length : Int) := by omega
      have hk0 : (0 : Int) ≤ (k : Int) := by omega
      have ho := unhide HOP k hlt
      obtain ⟨q0, q1, q2, q3⟩ := (unhide HB).at4 hlt
      obtain ⟨x, hx⟩ : ∃ x, x = inAt L k := ⟨_, rfl⟩
      rw [← hx] at q0 q1 q2 q3 ho
      obtain ⟨op, d, xa, xb⟩ := x
      simp only at q0 q1 q2 q3 ho
      have HO1 := hide ho
      have HX := hide hx
      clear ho hx
      obtain ⟨tu, htu⟩ : ∃ t, t = wrB ⟨op, d, xa, xb⟩ a := ⟨_, rfl⟩
      obtain ⟨tv, htv⟩ : ∃ t, t = wrB ⟨op, d, xa, xb⟩ b := ⟨_, rfl⟩
      have KW1 := hide (unhide KW op d xa xb a (unhide HO1) wr)
      rw [← htu] at KW1
      have HTU := hide htu
      have HTV := hide htv
      clear htu htv
      go_wp2_with fail
      refine (unhide KW1).mono ?_
      rintro _ w5 ⟨rfl, hb5⟩
      have HB5 := hide ((unhide HB).next hb5)
      clear q0 q1 q2 q3 p3 hb5 KW1
      cases tu
      · have p3 := (unhide HB5).p.c3
        obtain ⟨q0, q1, q2, q3⟩ := (unhide HB5).at4 hlt
        rw [← unhide HX] at q0 q1 q2 q3
        simp only at q0 q1 q2 q3
        have KW2 := hide (unhide KW op d xa xb b (unhide HO1) w5)
        rw [← unhide HTV] at KW2
        go_wp2_with fail
        refine (unhide KW2).mono ?_
        rintro _ w8 ⟨rfl, hb8⟩
        have HB8 := hide ((unhide HB5).next hb8)
        clear q0 q1 q2 q3 p3 hb8 KW2
        cases tv
        · go_wp2_with fail
          go_roundw
          case rel => exact ⟨k + 1, by omega, by go_num, (unhide HNH).succ (.inl (by rw [← unhide HX]; exact (unhide HTU).symm)) (.inl (by rw [← unhide HX]; exact (unhide HTV).symm)), unhide HB8⟩
          case measure => simp [intOf]; omega
        · have KX2 := hide (unhide KX k a hlt (by rw [← unhide HX]; exact (wrB_parts (unhide HTV).symm).1) w8 (unhide HB8).code)
          have p0 := (unhide HB8).p.c0
          have p1 := (unhide HB8).p.c1
          have p2 := (unhide HB8).p.c2
          have p3 := (unhide HB8).p.c3
          obtain ⟨tl, htl⟩ : ∃ t, t = liveB L (k + 1) a := ⟨_, rfl⟩
          rw [← htl] at KX2
          have HTL := hide htl
          clear htl
          go_wp2_with fail
          refine (unhide KX2).mono ?_
          rintro _ w9 ⟨rfl, hb9⟩
          have HB9 := hide ((unhide HB8).next hb9)
          clear p0 p1 p2 p3 hb9 KX2
          cases tl
          · go_wp2_with fail
            go_roundw
            case rel => exact ⟨k + 1, by omega, by go_num, (unhide HNH).succ (.inl (by rw [← unhide HX]; exact (unhide HTU).symm)) (.inr (unhide HTL).symm), unhide HB9⟩
            case measure => simp [intOf]; omega
          · have HE := hide (hit_yes2 (b := b) ha hlt (by rw [← unhide HX]; exact (unhide HTV).symm) (unhide HTL).symm)
            go_wp2_with fail
            go_ret
            exact ⟨ret_bool (unhide HE).symm, (unhide HB9).bel⟩
      · have KX1 := hide (unhide KX k b hlt (by rw [← unhide HX]; exact (wrB_parts (unhide HTU).symm).1) w5 (unhide HB5).code)
        have p0 := (unhide HB5).p.c0
        have p1 := (unhide HB5).p.c1
        have p2 := (unhide HB5).p.c2
        have p3 := (unhide HB5).p.c3
        obtain ⟨tb, htb⟩ : ∃ t, t = liveB L (k + 1) b := ⟨_, rfl⟩
        rw [← htb] at KX1
        have HTB := hide htb
        clear htb
        go_wp2_with fail
        refine (unhide KX1).mono ?_
        rintro _ w6 ⟨rfl, hb6⟩
        have HB6 := hide ((unhide HB5).next hb6)
        clear p0 p1 p2 p3 hb6 KX1
        cases tb
        · have p3 := (unhide HB6).p.c3
          obtain ⟨q0, q1, q2, q3⟩ := (unhide HB6).at4 hlt
          rw [← unhide HX] at q0 q1 q2 q3
          simp only at q0 q1 q2 q3
          have KW2 := hide (unhide KW op d xa xb b (unhide HO1) w6)
          rw [← unhide HTV] at KW2
          go_wp2_with fail
          refine (unhide KW2).mono ?_
          rintro _ w8 ⟨rfl, hb8⟩
          have HB8 := hide ((unhide HB6).next hb8)
          clear q0 q1 q2 q3 p3 hb8 KW2
          cases tv
          · go_wp2_with fail
            go_roundw
            case rel => exact ⟨k + 1, by omega, by go_num, (unhide HNH).succ (.inr (unhide HTB).symm) (.inl (by rw [← unhide HX]; exact (unhide HTV).symm)), unhide HB8⟩
            case measure => simp [intOf]; omega
          · have KX2 := hide (unhide KX k a hlt (by rw [← unhide HX]; exact (wrB_parts (unhide HTV).symm).1) w8 (unhide HB8).code)
            have p0 := (unhide HB8).p.c0
            have p1 := (unhide HB8).p.c1
            have p2 := (unhide HB8).p.c2
            have p3 := (unhide HB8).p.c3
            obtain ⟨tl, htl⟩ : ∃ t, t = liveB L (k + 1) a := ⟨_, rfl⟩
            rw [← htl] at KX2
            have HTL := hide htl
            clear htl
            go_wp2_with fail
            refine (unhide KX2).mono ?_
            rintro _ w9 ⟨rfl, hb9⟩
            have HB9 := hide ((unhide HB8).next hb9)
            clear p0 p1 p2 p3 hb9 KX2
            cases tl
            · go_wp2_with fail
              go_roundw
              case rel => exact ⟨k + 1, by omega, by go_num, (unhide HNH).succ (.inr (unhide HTB).symm) (.inr (unhide HTL).symm), unhide HB9⟩
              case measure => simp [intOf]; omega
            · have HE := hide (hit_yes2 (b := b) ha hlt (by rw [← unhide HX]; exact (unhide HTV).symm) (unhide HTL).symm)
              go_wp2_with fail
              go_ret
              exact ⟨ret_bool (unhide HE).symm, (unhide HB9).bel⟩
        · have HE := hide (hit_yes (b := b) ha hlt (by rw [← unhide HX]; exact (unhide HTU).symm) (unhide HTB).symm)
          go_wp2_with fail
          go_ret
          exact ⟨ret_bool (unhide HE).symm, (unhide HB6).bel⟩
end Go.Proofs.YtoepcplbpochpaaDoor

/-
  Must a value be told: lodgeref.Must.
-/
namespace Go.Proofs.YtoepcplbpochpaaDoor
open Go.RowKit

structure MB (w wr : World) (P R V : Int) (L : List In4) (ao : Option Addr) (cap : Nat) (so : Option Addr) (said : List Int) (po : Option Addr) (passed : List Int) : Prop where
  pb : PB w wr P R V L ao cap
  s : HeldI wr so said
  q : HeldI wr po passed
theorem MB.next {w wr w' : World} {P R V : Int} {L : List In4} {ao : Option Addr} {cap : Nat} {so : Option Addr} {said : List Int} {po : Option Addr} {passed : List Int} (h : MB w wr P R V L ao cap so said po passed) (hb : Below wr.heap.size wr w') : MB w w' P R V L ao cap so said po passed :=
  ⟨h.pb.next hb, h.s.below hb, h.q.below hb⟩
theorem heldI_at {w : World} {b off : Nat} {xs : List Int} (h : HeldI w (some ⟨b, off, none⟩) xs) {k : Nat} (hk : k < xs.length) : w.cell? ⟨b, off + k, none⟩ = some (.int .i64 (nth xs k)) ∧ b < w.heap.size := by
  rcases h with e | ⟨b', off', e, hb, hc⟩
  · rw [e] at hk; exact absurd hk (Nat.not_lt_zero _)
  · injection e with e
    injection e with e1 e2
    subst e1; subst e2
    exact ⟨hc k hk, hb⟩
theorem heldI_some {w : World} {so : Option Addr} {xs : List Int} (h : HeldI w so xs) (hk : 0 < xs.length) : ∃ b off, so = some ⟨b, off, none⟩ := by
  rcases h with e | ⟨b', off', e, _⟩
  · rw [e] at hk; exact absurd hk (Nat.not_lt_zero _)
  · exact ⟨_, _, e⟩
theorem said_nth {L : List In4} {v : Int} {i : Nat} {on : Nat → Bool} {said passed : List Int} {bare : Bool} (h : LastEnd L v i on said passed bare) {q : Nat} (hq : q < said.length) : ∃ k : Nat, nth said q = k ∧ k < L.length ∧ sayB (inAt L k) v = true := h.sd _ (by unfold nth; rw [List.getD_eq_getElem?_getD, List.getElem?_eq_getElem hq]; exact List.getElem_mem hq)
theorem passed_nth {L : List In4} {v : Int} {i : Nat} {on : Nat → Bool} {said passed : List Int} {bare : Bool} (h : LastEnd L v i on said passed bare) {q : Nat} (hq : q < passed.length) : ∃ k : Nat, nth passed q = k ∧ k < L.length ∧ sayB (inAt L k) v = false := h.ps _ (by unfold nth; rw [List.getD_eq_getElem?_getD, List.getElem?_eq_getElem hq]; exact List.getElem_mem hq)
theorem nth_all {xs : List Int} {Q : Nat → Prop} (h : ∀ q, q < xs.length → Q (nth xs q).toNat) : ∀ k : Nat, (k : Int) ∈ xs → Q k := fun k hk => by
  obtain ⟨q, hq, e⟩ := List.getElem_of_mem hk
  have := h q hq
  unfold nth at this
  rw [List.getD_eq_getElem?_getD, List.getElem?_eq_getElem hq] at this
  rw [show (some xs[q]).getD 0 = xs[q] from rfl, e] at this
  exact this
def MustPost (w : World) (L : List In4) (v i : Nat) (e : Ending) (w' : World) : Prop :=
  ∃ b : Bool, e = .returned (.bool b) ∧ (b = true → (factB L i v).k ≠ 0 → canB (factB L i v) (liveB L i) = true) ∧ Below w.heap.size w w'
theorem must_no {w : World} {L : List In4} {v i : Nat} {w' : World} (h : Below w.heap.size w w') : MustPost w L v i (.returned (.bool false)) w' := ⟨false, rfl, fun h => Bool.noConfusion h, h⟩

set_option maxRecDepth 100000 in
set_option maxHeartbeats 8000000 in
theorem must_any (P R V : Int) (L : List In4) (ao : Option Addr) (cap i v : Nat) (hp : RightP P R V L) (hi : i < L.length) (w : World) (hH : HeldIns w ao L) :
    Calls Tryd.prog 34 #[.agg #[.int .i64 P, .int .i64 R, .int .i64 V, .slice ao L.length cap], .int .i64 i, .int .i64 v] w (MustPost w L v i) := by
  have hn40 := hp.n40
  obtain ⟨bb, off, rfl, hbb, hI⟩ := held_at hH hp.n1
  obtain ⟨w1, hw1, HB1, hz1⟩ := pb_start w P R V L (some ⟨bb, off, none⟩) cap hH
  have HW := hide hw1
  have KL := hide (lasts_any P R V L (some ⟨bb, off, none⟩) cap i v hp w1 (unhide HB1).code)
  have KW := hide refWrites_any
  have KV := hide (fun (r : Nat) w' (h : HeldIns w' (some ⟨bb, off, none⟩) L) => live_any P R V L (some ⟨bb, off, none⟩) cap i r hp hi w' h)
  have HP := hide hp
  have HOP : Hid (∀ k, k < L.length → 0 ≤ (inAt L k).op ∧ (inAt L k).op ≤ 14) := fun k hk => ⟨(hp.ins k hk).1, hp.low k hk⟩
  clear hw1 hp hH hI
  go_enter Tryd.func34, Tryd.ntmps34
  go_upto_region 1 with fail
  rw [← unhide HW]
  have p0 := (unhide HB1).p.c0
  have p1 := (unhide HB1).p.c1
  have p2 := (unhide HB1).p.c2
  have p3 := (unhide HB1).p.c3
  go_wp2_with fail
  refine (unhide KL).mono ?_
  rintro _ w2 ⟨on, said, passed, bare, so, sc, po, pc, rfl, hS, hQ, hE, hsl, hpl, hb2⟩
  have HM2 : Hid (MB w w2 P R V L (some ⟨bb, off, none⟩) cap so said po passed) := ⟨(unhide HB1).next hb2, hS, hQ⟩
  have HE := hide hE
  clear p0 p1 p2 p3 hb2 hS hQ hE HB1 KL
  cases bare
  case true =>
    go_wp2_with fail
    go_ret
    exact must_no (unhide HM2).pb.bel
  by_cases hs0 : said = []
  · subst hs0
    go_wp2_with fail
    go_ret
    exact must_no (unhide HM2).pb.bel
  have hsp : 0 < said.length := by
    cases said with
    | nil => exact absurd rfl hs0
    | cons _ _ => exact Nat.succ_pos _
  have hsn : ((said.length : Int) == 0) = false := by rw [beq_eq_false_iff_ne]; omega
  have hsi : (0 : Int) < (said.length : Int) := by omega
  obtain ⟨sb, se, rfl⟩ := heldI_some (unhide HM2).s hsp
  obtain ⟨c0, hsb⟩ := heldI_at (unhide HM2).s hsp
  obtain ⟨k0, ek0, hk0, hsay⟩ := said_nth (unhide HE) hsp
  rw [ek0, Nat.add_zero] at c0
  obtain ⟨q0, q1, q2, q3⟩ := (unhide HM2).pb.at4 hk0
  obtain ⟨x0, hx0⟩ : ∃ x, x = inAt L k0 := ⟨_, rfl⟩
  rw [← hx0] at q0 q1 q2 q3 hsay
  have HX0 := hide hx0
  have HSY := hide hsay
  have hki : (k0 : Int) < (L.length : Int) := by omega
  have hk00 : (0 : Int) ≤ (k0 : Int) := by omega
  have p3 := (unhide HM2).pb.p.c3
  have hlp : w.heap.size < w2.heap.size := (unhide HM2).pb.p.lt
  have hlb : bb < w2.heap.size := by have := (unhide HM2).pb.bel.size; omega
  clear hx0 hsay hs0 ek0
  obtain ⟨op, d, a, b'⟩ := x0
  simp only at q0 q1 q2 q3
  have a1 : ∀ (o : Obj) (i : Nat), (w2.alloc o).cell? ⟨w.heap.size, i, none⟩ = w2.cell? ⟨w.heap.size, i, none⟩ := fun o i => World.cell?_alloc_past (hn := hlp) ..
  have a2 : ∀ (o : Obj) (i : Nat), (w2.alloc o).cell? ⟨sb, i, none⟩ = w2.cell? ⟨sb, i, none⟩ := fun o i => World.cell?_alloc_past (hn := hsb) ..
  have a3 : ∀ (o : Obj) (i : Nat), (w2.alloc o).cell? ⟨bb, i, none⟩ = w2.cell? ⟨bb, i, none⟩ := fun o i => World.cell?_alloc_past (hn := hlb) ..
  go_wp2_with fail
  go_region_held3 (fun w' => w'.cell? ⟨w.heap.size, 3, none⟩ = some (.slice (some ⟨bb, off, none⟩) L.length cap) ∧ w'.cell? ⟨sb, se, none⟩ = some (.int .i64 (k0 : Int)) ∧ w'.cell? ⟨bb, off + k0 * 4, none⟩ = some (.int .i64 op) ∧ w'.cell? ⟨bb, off + k0 * 4 + 1, none⟩ = some (.int .i64 d) ∧ w'.cell? ⟨bb, off + k0 * 4 + 2, none⟩ = some (.int .i64 a) ∧ w'.cell? ⟨bb, off + k0 * 4 + 3, none⟩ = some (.int .i64 b')) (simp [*])
    (fail)
  obtain ⟨w3, hw3⟩ : ∃ w3, w3 = (w2.alloc (.cells #[.int .i64 op, .int .i64 d, .int .i64 a, .int .i64 b'] 77)).drew := ⟨_, rfl⟩
  rw [← hw3]
  have hb3 : Below w2.heap.size w2 w3 := by rw [hw3]; exact ((Below.refl _ _).alloc (Nat.le_refl _) _).drew
  have HM3 := hide ((unhide HM2).next hb3)
  have HF3 : Hid (At4 w3 w2.heap.size 0 ⟨op, d, a, b'⟩) := by
    rw [hw3]
    refine ⟨?_, ?_, ?_, ?_⟩ <;> exact (World.cell?_alloc_at (hn := rfl) ..).trans rfl
  have hF3 : w2.heap.size < w3.heap.size := by rw [hw3]; simp
  clear hw3 hb3 HM2 q0 q1 q2 q3 p3 c0 a1 a2 a3 hki hk00 hlp hlb hsb hsn
  obtain ⟨F, hF⟩ : ∃ F, F = w2.heap.size := ⟨_, rfl⟩
  rw [← hF] at HF3 hF3 ⊢
  clear hF
  go_wp2_with fail
  go_loopw [11] (fun vn wr => ∃ m : Nat, m ≤ said.length ∧ vn = .int .i64 m ∧ Hid (∀ q, q < m → (inAt L (nth said q).toNat).op = op ∧ (inAt L (nth said q).toNat).a = a) ∧ Hid (MB w wr P R V L (some ⟨bb, off, none⟩) cap (some ⟨sb, se, none⟩) said po passed) ∧ Hid (At4 wr F 0 ⟨op, d, a, b'⟩) ∧ F < wr.heap.size) (fun vn _ => said.length - (intOf vn).toNat)
  case atStart => exact ⟨0, Nat.zero_le _, rfl, fun q hq => absurd hq (Nat.not_lt_zero _), unhide HM3, unhide HF3, hF3⟩
  case round =>
    clear HM3 HF3 hF3
    obtain ⟨m, hm, rfl, HA, HM, HF, hF⟩ := hrel
    by_cases hml : m < said.length
    · have hmi : (m : Int) < (said.length : Int) := by omega
      have hm0 : (0 : Int) ≤ (m : Int) := by omega
      obtain ⟨c0, hsb⟩ := heldI_at (unhide HM).s hml
      obtain ⟨k1, ek1, hk1, _⟩ := said_nth (unhide HE) hml
      have HK1 := hide ek1
      rw [ek1] at c0
      obtain ⟨q0, q1, q2, q3⟩ := (unhide HM).pb.at4 hk1
      obtain ⟨x1, hx1⟩ : ∃ x, x = inAt L k1 := ⟨_, rfl⟩
      rw [← hx1] at q0 q1 q2 q3
      have HX1 := hide hx1
      have hki : (k1 : Int) < (L.length : Int) := by omega
      have hk00 : (0 : Int) ≤ (k1 : Int) := by omega
      have p3 := (unhide HM).pb.p.c3
      have hlp : w.heap.size < wr.heap.size := (unhide HM).pb.p.lt
      have hlb : bb < wr.heap.size := by have := (unhide HM).pb.bel.size; omega
      clear hx1 ek1
      obtain ⟨xo, xd, xa, xb⟩ := x1
      simp only at q0 q1 q2 q3
      have a1 : ∀ (o : Obj) (i : Nat), (wr.alloc o).cell? ⟨w.heap.size, i, none⟩ = wr.cell? ⟨w.heap.size, i, none⟩ := fun o i => World.cell?_alloc_past (hn := hlp) ..
      have a2 : ∀ (o : Obj) (i : Nat), (wr.alloc o).cell? ⟨sb, i, none⟩ = wr.cell? ⟨sb, i, none⟩ := fun o i => World.cell?_alloc_past (hn := hsb) ..
      have a3 : ∀ (o : Obj) (i : Nat), (wr.alloc o).cell? ⟨bb, i, none⟩ = wr.cell? ⟨bb, i, none⟩ := fun o i => World.cell?_alloc_past (hn := hlb) ..
      go_wp2_with fail
      go_region_held3 (fun w' => w'.cell? ⟨w.heap.size, 3, none⟩ = some (.slice (some ⟨bb, off, none⟩) L.length cap) ∧ w'.cell? ⟨sb, se + m, none⟩ = some (.int .i64 (k1 : Int)) ∧ w'.cell? ⟨bb, off + k1 * 4, none⟩ = some (.int .i64 xo) ∧ w'.cell? ⟨bb, off + k1 * 4 + 1, none⟩ = some (.int .i64 xd) ∧ w'.cell? ⟨bb, off + k1 * 4 + 2, none⟩ = some (.int .i64 xa) ∧ w'.cell? ⟨bb, off + k1 * 4 + 3, none⟩ = some (.int .i64 xb)) (simp [*])
        (fail)
      obtain ⟨w5, hw5⟩ : ∃ w5, w5 = (wr.alloc (.cells #[.int .i64 xo, .int .i64 xd, .int .i64 xa, .int .i64 xb] 77)).drew := ⟨_, rfl⟩
      rw [← hw5]
      have hb5 : Below wr.heap.size wr w5 := by rw [hw5]; exact ((Below.refl _ _).alloc (Nat.le_refl _) _).drew
      have HM5 := hide ((unhide HM).next hb5)
      have y0 : w5.cell? ⟨wr.heap.size, 0, none⟩ = some (.int .i64 xo) := by rw [hw5]; exact (World.cell?_alloc_at (hn := rfl) ..).trans rfl
      have y2 : w5.cell? ⟨wr.heap.size, 2, none⟩ = some (.int .i64 xa) := by rw [hw5]; exact (World.cell?_alloc_at (hn := rfl) ..).trans rfl
      have HF5 := hide ((unhide HF).below hb5 hF)
      have hF5 : F < w5.heap.size := Nat.lt_of_lt_of_le hF hb5.size
      obtain ⟨f0, f1, f2, f3⟩ := unhide HF5
      simp only [Nat.zero_add] at f0 f1 f2 f3
      clear hw5 hb5 HM HF q0 q1 q2 q3 p3 c0 a1 a2 a3 hki hk00 hlp hlb hsb
      by_cases eo : xo = op
      · by_cases ea : xa = a
        · subst eo
          subst ea
          go_wp2_with fail
          go_roundw
          case rel =>
            refine ⟨m + 1, by omega, by go_num, fun q hq => ?_, unhide HM5, unhide HF5, hF5⟩
            by_cases e : q = m
            · subst e
              rw [unhide HK1, show ((k1 : Int)).toNat = k1 by omega, ← unhide HX1]
              exact ⟨rfl, rfl⟩
            · exact unhide HA q (by omega)
          case measure => simp [intOf]; omega
        · have ea1 : (xa != a) = true := by rw [bne_iff_ne]; exact ea
          subst eo
          go_wp2_with fail
          go_ret
          exact must_no (unhide HM5).pb.bel
      · have eo1 : (xo != op) = true := by rw [bne_iff_ne]; exact eo
        go_wp2_with fail
        go_ret
        exact must_no (unhide HM5).pb.bel
    · obtain rfl : m = said.length := by omega
      have HALL := hide (nth_all (Q := fun k => (inAt L k).op = op ∧ (inAt L k).a = a) (unhide HA))
      obtain ⟨f0, f1, f2, f3⟩ := unhide HF
      simp only [Nat.zero_add] at f0 f1 f2 f3
      by_cases e13 : op = 13
      · subst e13
        go_wp2_with fail
        go_ret
        exact ⟨true, rfl, fun _ h => must_can (right_inside (unhide HP)) (unhide HE) (unhide HALL) (.inl rfl) h, (unhide HM).pb.bel⟩
      have g13 : (op == 13) = false := by rw [beq_eq_false_iff_ne]; exact e13
      by_cases e12 : op = 12
      case neg =>
        have g12 : (op != 12) = true := by rw [bne_iff_ne]; exact e12
        go_wp2_with fail
        go_ret
        exact must_no (unhide HM).pb.bel
      subst e12
      clear e13 g13 HA
      obtain ⟨an, rfl⟩ : ∃ an : Nat, a = an := by
        have h := ((unhide HP).ins k0 hk0).2.2.2.1
        rw [← unhide HX0] at h
        have := (h (.inr (.inr (.inr (.inr (.inr rfl)))))).1
        exact ⟨a.toNat, by have h2 : (0 : Int) ≤ a := this; omega⟩
      go_wp2_with fail
      obtain ⟨wq, rfl⟩ : ∃ wq, wq = wr := ⟨_, rfl⟩
      go_loopw [13] (fun vn wr => ∃ m : Nat, m ≤ passed.length ∧ vn = .int .i64 m ∧ Hid (∀ q, q < m → wrB (inAt L (nth passed q).toNat) an = false) ∧ Hid (MB w wr P R V L (some ⟨bb, off, none⟩) cap (some ⟨sb, se, none⟩) said po passed) ∧ Hid (At4 wr F 0 ⟨12, d, an, b'⟩) ∧ F < wr.heap.size) (fun vn _ => passed.length - (intOf vn).toNat)
      case atStart => exact ⟨0, Nat.zero_le _, rfl, fun q hq => absurd hq (Nat.not_lt_zero _), unhide HM, unhide HF, hF⟩
      case round =>
        clear HM HF hF f0 f1 f2 f3
        obtain ⟨m, hm, rfl, HA, HM, HF, hF⟩ := hrel
        obtain ⟨f0, f1, f2, f3⟩ := unhide HF
        simp only [Nat.zero_add] at f0 f1 f2 f3
        by_cases hml : m < passed.length
        · have hmi : (m : Int) < (passed.length : Int) := by omega
          have hm0 : (0 : Int) ≤ (m : Int) := by omega
          obtain ⟨qb, qe, rfl⟩ := heldI_some (unhide HM).q (by omega)
          obtain ⟨c0, hqb⟩ := heldI_at (unhide HM).q hml
          obtain ⟨k1, ek1, hk1, _⟩ := passed_nth (unhide HE) hml
          have HK1 := hide ek1
          rw [ek1] at c0
          obtain ⟨q0, q1, q2, q3⟩ := (unhide HM).pb.at4 hk1
          obtain ⟨x1, hx1⟩ : ∃ x, x = inAt L k1 := ⟨_, rfl⟩
          have hxo : 0 ≤ x1.op ∧ x1.op ≤ 14 := by rw [hx1]; exact unhide HOP k1 hk1
          rw [← hx1] at q0 q1 q2 q3
          have HX1 := hide hx1
          have hki : (k1 : Int) < (L.length : Int) := by omega
          have hk00 : (0 : Int) ≤ (k1 : Int) := by omega
          have p3 := (unhide HM).pb.p.c3
          clear hx1 ek1
          obtain ⟨xo, xd, xa, xb⟩ := x1
          simp only at q0 q1 q2 q3 hxo
          have KW1 := hide (unhide KW xo xd xa xb an hxo wr.drew)
          obtain ⟨tw, htw⟩ : ∃ t, t = wrB ⟨xo, xd, xa, xb⟩ (an : Int) := ⟨_, rfl⟩
          rw [← htw] at KW1
          have HTW := hide htw
          clear htw
          go_wp2_with fail
          go_region_held3 (fun w' => w'.cell? ⟨w.heap.size, 3, none⟩ = some (.slice (some ⟨bb, off, none⟩) L.length cap) ∧ w'.cell? ⟨qb, qe + m, none⟩ = some (.int .i64 (k1 : Int)) ∧ w'.cell? ⟨bb, off + k1 * 4, none⟩ = some (.int .i64 xo) ∧ w'.cell? ⟨bb, off + k1 * 4 + 1, none⟩ = some (.int .i64 xd) ∧ w'.cell? ⟨bb, off + k1 * 4 + 2, none⟩ = some (.int .i64 xa) ∧ w'.cell? ⟨bb, off + k1 * 4 + 3, none⟩ = some (.int .i64 xb) ∧ w'.cell? ⟨F, 2, none⟩ = some (.int .i64 (an : Int))) (first | assumption | (exact ⟨p3, c0, q0, q1, q2, q3, f2⟩) | (exact ⟨z3, z4, z5.1, z5.2.1, z5.2.2.1, z5.2.2.2, z6⟩))
            ((go_at_call 66; refine (unhide KW1).mono ?_; rintro e w5 ⟨rfl, hb5'⟩; have hb5 : Below wr.heap.size wr w5 := ⟨hb5'.os, hb5'.tape, hb5'.output, hb5'.size, hb5'.block⟩; clear hb5'; have HM5 := hide ((unhide HM).next hb5); have HF5 := hide ((unhide HF).below hb5 hF); have hF5 : F < w5.heap.size := Nat.lt_of_lt_of_le hF hb5.size; have z3 := (unhide HM5).pb.p.c3; have z4 := (hb5.cell (p := ⟨qb, qe + m, none⟩) hqb).trans c0; have z5 := (unhide HM5).pb.at4 hk1; rw [← unhide HX1] at z5; have z6 := (unhide HF5).2.2.1; clear hb5 p3 c0 q0 q1 q2 q3 f0 f1 f2 f3))
          clear z3 z4 z5 z6
          cases tw
          · go_wp2_with fail
            go_roundw
            case rel =>
              refine ⟨m + 1, by omega, by go_num, fun q hq => ?_, unhide HM5, unhide HF5, hF5⟩
              by_cases e : q = m
              · subst e
                rw [unhide HK1, show ((k1 : Int)).toNat = k1 by omega, ← unhide HX1]
                exact (unhide HTW).symm
              · exact unhide HA q (by omega)
            case measure => simp [intOf]; omega
          · go_wp2_with fail
            go_ret
            exact must_no (unhide HM5).pb.bel
        · obtain rfl : m = passed.length := by omega
          have HALQ := hide (nth_all (Q := fun k => wrB (inAt L k) an = false) (unhide HA))
          have p0 := (unhide HM).pb.p.c0
          have p1 := (unhide HM).pb.p.c1
          have p2 := (unhide HM).pb.p.c2
          have p3 := (unhide HM).pb.p.c3
          have KV1 := hide (unhide KV an wr (unhide HM).pb.code)
          obtain ⟨tl, htl⟩ : ∃ t, t = liveB L i an := ⟨_, rfl⟩
          rw [← htl] at KV1
          have HTL := hide htl
          clear htl
          go_wp2_with fail
          refine (unhide KV1).mono ?_
          rintro _ w6 ⟨rfl, hb6⟩
          have HL6 := hide ((unhide HM).pb.next hb6).bel
          clear p0 p1 p2 p3 f0 f1 f2 f3 hb6
          go_wp2_with fail
          go_ret
          exact ⟨tl, rfl, fun ht h => must_can (right_inside (unhide HP)) (unhide HE) (unhide HALL) (.inr ⟨rfl, unhide HALQ, by rw [show ((an : Int)).toNat = an by omega, ← unhide HTL]; exact ht⟩) h, unhide HL6⟩
end Go.Proofs.YtoepcplbpochpaaDoor
