/-
  What (*lodgeref.Moment).pass does to a moment: a step of the run.
-/
import Derived.Test.YtoepcplbpochpaaDoorPiece24
import Derived.Test.YtoepcplbpochpaaDoorPiece2
import Derived.Handy
import Derived.OwnWalk

namespace Go.Proofs.YtoepcplbpochpaaDoor
open Go.RowKit

theorem pre_low (x : In4) (s : St) (h : x.op ≤ 10) : preSt x s = s := by
  unfold preSt; rw [if_neg (by omega), if_neg (by omega), if_neg (by omega), if_neg (by omega), if_neg (by omega), if_neg (by omega)]
theorem do_high (x : In4) (s : St) (h : 11 ≤ x.op) : doSt x s = s.next := by
  unfold doSt; rw [if_neg (by omega), if_neg (by omega), if_neg (by omega), if_neg (by omega), if_neg (by omega), if_neg (by omega), if_neg (by omega)]

set_option maxRecDepth 100000 in
set_option maxHeartbeats 8000000 in
theorem pass_any (M G H R V : Nat) (s : St) (x : In4) (n : Int) (w : World) (h : MomB w M G H R V s) (hx : Right R n V x)
    (hv : ∀ i, 0 ≤ s.regs i ∧ s.regs i ≤ 65535) (hat : s.at_ ≤ 1000) (hval : s.val = 0) (hpu : (s.env.vc = 3 ∧ x.op ≤ 14) ∨ (s.env.vc = 2 ∧ (x.op ≤ 11 ∨ 15 ≤ x.op))) :
    Calls Tryd.prog 54 #[.pointer (some ⟨M, 0, none⟩), .agg #[.int .i64 x.op, .int .i64 x.d, .int .i64 x.a, .int .i64 x.b]] w (PassPost w M G H R V (stepSt x s)) := by
  have hM := h.im
  have hG := h.ig
  have hH := h.ih
  obtain ⟨op, d, a, b⟩ := x
  obtain ⟨o0, o1, rD, rA, rB, rC, rJ, rI, rS, rV, rL, rT⟩ := hx
  simp only at o0 o1 rD rA rB rC rJ rI rS rV rL rT hpu ⊢
  have HI := hide h
  have HV := hide hv
  have HVAL := hide hval
  have HRD := hide rD
  have HRA := hide rA
  have HRB := hide rB
  have HRC := hide rC
  have HRJ := hide rJ
  have HRI := hide rI
  have HRV := hide rV
  have HRL := hide rL
  have HRT := hide rT
  have HPU := hide hpu
  have hx1 : ∀ (wq : World) (j o : Nat) (z : Value), (wq.setCell ⟨M, j, none⟩ z).cell? ⟨w.heap.size, o, none⟩ = wq.cell? ⟨w.heap.size, o, none⟩ := fun wq j o z => World.cell?_setCell_other _ _ _ _ (fun e => by injection e with e1; omega)
  have hx2 : ∀ (wq : World) (j o : Nat) (z : Value), (wq.setCell ⟨G, j, none⟩ z).cell? ⟨w.heap.size, o, none⟩ = wq.cell? ⟨w.heap.size, o, none⟩ := fun wq j o z => World.cell?_setCell_other _ _ _ _ (fun e => by injection e with e1; omega)
  have hx3 : ∀ (wq : World) (j o : Nat) (z : Value), (wq.setCell ⟨H, j, none⟩ z).cell? ⟨w.heap.size, o, none⟩ = wq.cell? ⟨w.heap.size, o, none⟩ := fun wq j o z => World.cell?_setCell_other _ _ _ _ (fun e => by injection e with e1; omega)
  have hk1 : ∀ (wq : World) (j o : Nat) (z : Value), (wq.setCell ⟨G, j, none⟩ z).cell? ⟨M, o, none⟩ = wq.cell? ⟨M, o, none⟩ := fun wq j o z => World.cell?_setCell_other _ _ _ _ (fun e => (unhide HI).mg (by injection e with e1; exact e1.symm))
  have hk2 : ∀ (wq : World) (j o : Nat) (z : Value), (wq.setCell ⟨H, j, none⟩ z).cell? ⟨M, o, none⟩ = wq.cell? ⟨M, o, none⟩ := fun wq j o z => World.cell?_setCell_other _ _ _ _ (fun e => (unhide HI).mh (by injection e with e1; exact e1.symm))
  have hk3 : ∀ (wq : World) (j o : Nat) (z : Value), (wq.setCell ⟨H, j, none⟩ z).cell? ⟨G, o, none⟩ = wq.cell? ⟨G, o, none⟩ := fun wq j o z => World.cell?_setCell_other _ _ _ _ (fun e => (unhide HI).gh (by injection e with e1; exact e1.symm))
  have hk4 : ∀ (wq : World) (j o : Nat) (z : Value), (wq.setCell ⟨M, j, none⟩ z).cell? ⟨G, o, none⟩ = wq.cell? ⟨G, o, none⟩ := fun wq j o z => World.cell?_setCell_other _ _ _ _ (fun e => (unhide HI).mg (by injection e with e1))
  have c0 : w.cell? ⟨M, 0, none⟩ = some (.int .i64 (s.at_ : Int)) := h.at_
  have c4 : w.cell? ⟨M, 4, none⟩ = some (.int .i64 (endI s)) := h.en
  have c5 : w.cell? ⟨M, 5, none⟩ = some (.int .i64 s.val) := h.vl
  have hf : ∀ o, w.frozen? ⟨M, o, none⟩ = false := h.fm
  have hk5 : ∀ (wq : World) (j o : Nat) (z : Value), (wq.setCell ⟨G, j, none⟩ z).cell? ⟨H, o, none⟩ = wq.cell? ⟨H, o, none⟩ := fun wq j o z => World.cell?_setCell_other _ _ _ _ (fun e => (unhide HI).gh (by injection e with e1))
  clear h hv hval hpu rD rA rB rC rJ rI rS rV rL rT
  rcases (show op = 0 ∨ op = 1 ∨ (2 ≤ op ∧ op ≤ 6) ∨ op = 7 ∨ op = 8 ∨ op = 9 ∨ op = 10 ∨ op = 11 ∨ op = 12 ∨ op = 13 ∨ op = 14 ∨ op = 15 ∨ op = 16 by omega) with rfl | rfl | ho | rfl | rfl | rfl | rfl | rfl | rfl | rfl | rfl | rfl | rfl
  · obtain ⟨d0, d1⟩ := unhide HRD (.inl rfl)
    obtain ⟨dn, rfl⟩ : ∃ dn : Nat, d = dn := ⟨d.toNat, by omega⟩
    have cd := (unhide HI).regs dn (by omega)
    go_enter Tryd.func54, Tryd.ntmps54
    go_wp2_with fail
    obtain ⟨w2, hw2, HI2, HK2, q0, q1, q2, q3⟩ := pass_open 0 (dn : Int) a b (unhide HI)
    unfold passW at hw2
    rw [← hw2]
    have m1 := (unhide HI2).rg
    have fg := (unhide HI2).fg
    have fh := (unhide HI2).fh
    have fm := (unhide HI2).fm
    have e4 := (unhide HI2).en
    have e0 := (unhide HI2).at_
    clear hw2 c0 c4 c5 hf
    have cd2 := (unhide HI2).regs dn (by omega)
    clear cd
    go_region_held3 (fun w' => w'.cell? ⟨w.heap.size, 1, none⟩ = some (.int .i64 (dn : Int)) ∧ w'.cell? ⟨w.heap.size, 2, none⟩ = some (.int .i64 a) ∧ w'.cell? ⟨M, 1, none⟩ = some (.slice (some ⟨G, 0, none⟩) R R)) (simp [*]) (fail)
    go_wp2_with fail
    go_returns
    exact ⟨rfl, ((unhide HI2).set_reg dn (by omega) a).drew, (keep_g (unhide HK2) _ _).drew⟩
  · obtain ⟨d0, d1⟩ := unhide HRD (.inr (.inl rfl))
    obtain ⟨a0, a1⟩ := unhide HRA (.inl rfl)
    obtain ⟨dn, rfl⟩ : ∃ dn : Nat, d = dn := ⟨d.toNat, by omega⟩
    obtain ⟨an, rfl⟩ : ∃ an : Nat, a = an := ⟨a.toNat, by omega⟩
    go_enter Tryd.func54, Tryd.ntmps54
    go_wp2_with fail
    obtain ⟨w2, hw2, HI2, HK2, q0, q1, q2, q3⟩ := pass_open 1 (dn : Int) (an : Int) b (unhide HI)
    unfold passW at hw2
    rw [← hw2]
    have m1 := (unhide HI2).rg
    have fg := (unhide HI2).fg
    have fh := (unhide HI2).fh
    have fm := (unhide HI2).fm
    have e4 := (unhide HI2).en
    have e0 := (unhide HI2).at_
    clear hw2 c0 c4 c5 hf
    obtain ⟨y, hy⟩ : ∃ y, y = s.regs an := ⟨_, rfl⟩
    have ca : w2.cell? ⟨G, an, none⟩ = some (.int .i64 y) := by rw [hy]; exact (unhide HI2).regs an (by omega)
    have HY := hide hy
    clear hy
    have cd2 := (unhide HI2).regs dn (by omega)
    have hkc : ∀ wq : World, wq.cell? ⟨G, an, none⟩ = some (.int .i64 y) → (wq.setCell ⟨G, dn, none⟩ (.int .i64 y)).cell? ⟨G, an, none⟩ = some (.int .i64 y) := fun wq hq => by
      by_cases e : an = dn
      · subst e; exact cell_put hq
      · exact cell_set hq e
    go_region_held3 (fun w' => w'.cell? ⟨w.heap.size, 1, none⟩ = some (.int .i64 (dn : Int)) ∧ w'.cell? ⟨w.heap.size, 2, none⟩ = some (.int .i64 (an : Int)) ∧ w'.cell? ⟨M, 1, none⟩ = some (.slice (some ⟨G, 0, none⟩) R R) ∧ w'.cell? ⟨G, an, none⟩ = some (.int .i64 y)) (simp [*]) (fail)
    go_wp2_with fail
    go_returns
    have hP := ((unhide HI2).set_reg dn (by omega) y).drew
    rw [unhide HY] at hP ⊢
    exact ⟨rfl, hP, (keep_g (unhide HK2) _ _).drew⟩
  · obtain ⟨d0, d1⟩ := unhide HRD (.inr (.inr ho))
    obtain ⟨a0, a1⟩ := unhide HRA (.inr (.inl ho))
    obtain ⟨b0, b1⟩ := unhide HRB ho
    obtain ⟨dn, rfl⟩ : ∃ dn : Nat, d = dn := ⟨d.toNat, by omega⟩
    obtain ⟨an, rfl⟩ : ∃ an : Nat, a = an := ⟨a.toNat, by omega⟩
    obtain ⟨bn, rfl⟩ : ∃ bn : Nat, b = bn := ⟨b.toNat, by omega⟩
    have HD : Hid (stepSt ⟨op, (dn : Int), (an : Int), (bn : Int)⟩ s = s.next.reckon op dn an bn) := by
      unfold Hid stepSt
      rw [pre_low _ _ (show op ≤ 10 by omega)]
      unfold doSt
      simp only [Int.toNat_natCast]
      rw [if_neg (by omega), if_neg (by omega), if_neg (by omega), if_neg (by omega), if_neg (by omega), if_neg (by omega), if_pos ho]
    obtain ⟨y, hy⟩ : ∃ y, y = s.regs an := ⟨_, rfl⟩
    obtain ⟨z, hz⟩ : ∃ z, z = s.regs bn := ⟨_, rfl⟩
    have va := unhide HV an
    have vb := unhide HV bn
    rw [← hy] at va
    rw [← hz] at vb
    have KR := hide (fun w => reach_any op y z w (by omega) va.1 va.2 vb.1 vb.2)
    have hrk := reach_ok op y z va vb
    obtain ⟨t, ht⟩ : ∃ t, t = reachE op y z := ⟨_, rfl⟩
    rw [← ht] at KR hrk
    have HD2 : Hid (s.next.reckon op dn an bn = if t < 0 then s.next.ended 1 0 else s.next.reg dn t) := by
      unfold Hid St.reckon
      show (if reachE op (s.regs an) (s.regs bn) < 0 then _ else s.next.reg dn (reachE op (s.regs an) (s.regs bn))) = _
      rw [← hy, ← hz, ← ht]
    have HY := hide hy
    have HZ := hide hz
    clear hy hz va vb ht HRD HRA HRB HRC HRJ HRI HRV
    rcases (show op = 2 ∨ op = 3 ∨ op = 4 ∨ op = 5 ∨ op = 6 by omega) with rfl | rfl | rfl | rfl | rfl
    · have HR := hide hrk
      clear hrk
      go_enter Tryd.func54, Tryd.ntmps54
      go_wp2_with fail
      obtain ⟨w2, hw2, HI2, HK2, q0, q1, q2, q3⟩ := pass_open 2 (dn : Int) (an : Int) (bn : Int) (unhide HI)
      unfold passW at hw2
      rw [← hw2]
      have m1 := (unhide HI2).rg
      have fg := (unhide HI2).fg
      have fm := (unhide HI2).fm
      have e4 := (unhide HI2).en
      have ca : w2.cell? ⟨G, an, none⟩ = some (.int .i64 y) := by rw [unhide HY]; exact (unhide HI2).regs an (by omega)
      have cb : w2.cell? ⟨G, bn, none⟩ = some (.int .i64 z) := by rw [unhide HZ]; exact (unhide HI2).regs bn (by omega)
      have cd2 := (unhide HI2).regs dn (by omega)
      clear hw2 c0 c4 c5 hf
      go_region_held3 (fun w' => w'.cell? ⟨w.heap.size, 0, none⟩ = some (.int .i64 2) ∧ w'.cell? ⟨w.heap.size, 2, none⟩ = some (.int .i64 (an : Int)) ∧ w'.cell? ⟨w.heap.size, 3, none⟩ = some (.int .i64 (bn : Int)) ∧ w'.cell? ⟨M, 1, none⟩ = some (.slice (some ⟨G, 0, none⟩) R R) ∧ w'.cell? ⟨G, an, none⟩ = some (.int .i64 y) ∧ w'.cell? ⟨G, bn, none⟩ = some (.int .i64 z)) (simp [*])
        ((go_at_call 87; refine (unhide KR _).mono ?_; rintro e w5 ⟨rfl, hw5⟩; rw [hw5]; clear hw5))
      rcases (show t = -1 ∨ 0 ≤ t by have := unhide HR; omega) with rfl | ht0
      · go_wp2_with fail
        go_returns
        rw [unhide HD, unhide HD2, if_pos (by decide)]
        have hP := ((unhide HI2).set_end 1).same (s' := s.next.ended 1 0) rfl rfl rfl rfl (unhide HVAL).symm
        first | exact ⟨rfl, hP.drew, (keep_m (unhide HK2) _ _).drew⟩ | exact ⟨rfl, hP.drew.drew, ((keep_m (unhide HK2) _ _).drew).drew⟩
      · go_wp2_with fail
        go_region_held3 (fun w' => w'.cell? ⟨w.heap.size, 1, none⟩ = some (.int .i64 (dn : Int)) ∧ w'.cell? ⟨M, 1, none⟩ = some (.slice (some ⟨G, 0, none⟩) R R)) (simp [*]) (fail)
        go_wp2_with fail
        go_returns
        rw [unhide HD, unhide HD2, if_neg (by omega)]
        first | exact ⟨rfl, (((unhide HI2).set_reg dn (by omega) t).drew).drew, ((keep_g (unhide HK2) _ _).drew).drew⟩ | exact ⟨rfl, ((unhide HI2).set_reg dn (by omega) t).drew, (keep_g (unhide HK2) _ _).drew⟩ | exact ⟨rfl, ((((unhide HI2).set_reg dn (by omega) t).drew).drew).drew, (((keep_g (unhide HK2) _ _).drew).drew).drew⟩
    · have HR := hide hrk
      clear hrk
      go_enter Tryd.func54, Tryd.ntmps54
      go_wp2_with fail
      obtain ⟨w2, hw2, HI2, HK2, q0, q1, q2, q3⟩ := pass_open 3 (dn : Int) (an : Int) (bn : Int) (unhide HI)
      unfold passW at hw2
      rw [← hw2]
      have m1 := (unhide HI2).rg
      have fg := (unhide HI2).fg
      have fm := (unhide HI2).fm
      have e4 := (unhide HI2).en
      have ca : w2.cell? ⟨G, an, none⟩ = some (.int .i64 y) := by rw [unhide HY]; exact (unhide HI2).regs an (by omega)
      have cb : w2.cell? ⟨G, bn, none⟩ = some (.int .i64 z) := by rw [unhide HZ]; exact (unhide HI2).regs bn (by omega)
      have cd2 := (unhide HI2).regs dn (by omega)
      clear hw2 c0 c4 c5 hf
      go_region_held3 (fun w' => w'.cell? ⟨w.heap.size, 0, none⟩ = some (.int .i64 3) ∧ w'.cell? ⟨w.heap.size, 2, none⟩ = some (.int .i64 (an : Int)) ∧ w'.cell? ⟨w.heap.size, 3, none⟩ = some (.int .i64 (bn : Int)) ∧ w'.cell? ⟨M, 1, none⟩ = some (.slice (some ⟨G, 0, none⟩) R R) ∧ w'.cell? ⟨G, an, none⟩ = some (.int .i64 y) ∧ w'.cell? ⟨G, bn, none⟩ = some (.int .i64 z)) (simp [*])
        ((go_at_call 87; refine (unhide KR _).mono ?_; rintro e w5 ⟨rfl, hw5⟩; rw [hw5]; clear hw5))
      rcases (show t = -1 ∨ 0 ≤ t by have := unhide HR; omega) with rfl | ht0
      · go_wp2_with fail
        go_returns
        rw [unhide HD, unhide HD2, if_pos (by decide)]
        have hP := ((unhide HI2).set_end 1).same (s' := s.next.ended 1 0) rfl rfl rfl rfl (unhide HVAL).symm
        first | exact ⟨rfl, hP.drew, (keep_m (unhide HK2) _ _).drew⟩ | exact ⟨rfl, hP.drew.drew, ((keep_m (unhide HK2) _ _).drew).drew⟩
      · go_wp2_with fail
        go_region_held3 (fun w' => w'.cell? ⟨w.heap.size, 1, none⟩ = some (.int .i64 (dn : Int)) ∧ w'.cell? ⟨M, 1, none⟩ = some (.slice (some ⟨G, 0, none⟩) R R)) (simp [*]) (fail)
        go_wp2_with fail
        go_returns
        rw [unhide HD, unhide HD2, if_neg (by omega)]
        first | exact ⟨rfl, (((unhide HI2).set_reg dn (by omega) t).drew).drew, ((keep_g (unhide HK2) _ _).drew).drew⟩ | exact ⟨rfl, ((unhide HI2).set_reg dn (by omega) t).drew, (keep_g (unhide HK2) _ _).drew⟩ | exact ⟨rfl, ((((unhide HI2).set_reg dn (by omega) t).drew).drew).drew, (((keep_g (unhide HK2) _ _).drew).drew).drew⟩
    · have HR := hide hrk
      clear hrk
      go_enter Tryd.func54, Tryd.ntmps54
      go_wp2_with fail
      obtain ⟨w2, hw2, HI2, HK2, q0, q1, q2, q3⟩ := pass_open 4 (dn : Int) (an : Int) (bn : Int) (unhide HI)
      unfold passW at hw2
      rw [← hw2]
      have m1 := (unhide HI2).rg
      have fg := (unhide HI2).fg
      have fm := (unhide HI2).fm
      have e4 := (unhide HI2).en
      have ca : w2.cell? ⟨G, an, none⟩ = some (.int .i64 y) := by rw [unhide HY]; exact (unhide HI2).regs an (by omega)
      have cb : w2.cell? ⟨G, bn, none⟩ = some (.int .i64 z) := by rw [unhide HZ]; exact (unhide HI2).regs bn (by omega)
      have cd2 := (unhide HI2).regs dn (by omega)
      clear hw2 c0 c4 c5 hf
      go_region_held3 (fun w' => w'.cell? ⟨w.heap.size, 0, none⟩ = some (.int .i64 4) ∧ w'.cell? ⟨w.heap.size, 2, none⟩ = some (.int .i64 (an : Int)) ∧ w'.cell? ⟨w.heap.size, 3, none⟩ = some (.int .i64 (bn : Int)) ∧ w'.cell? ⟨M, 1, none⟩ = some (.slice (some ⟨G, 0, none⟩) R R) ∧ w'.cell? ⟨G, an, none⟩ = some (.int .i64 y) ∧ w'.cell? ⟨G, bn, none⟩ = some (.int .i64 z)) (simp [*])
        ((go_at_call 87; refine (unhide KR _).mono ?_; rintro e w5 ⟨rfl, hw5⟩; rw [hw5]; clear hw5))
      rcases (show t = -1 ∨ 0 ≤ t by have := unhide HR; omega) with rfl | ht0
      · go_wp2_with fail
        go_returns
        rw [unhide HD, unhide HD2, if_pos (by decide)]
        have hP := ((unhide HI2).set_end 1).same (s' := s.next.ended 1 0) rfl rfl rfl rfl (unhide HVAL).symm
        first | exact ⟨rfl, hP.drew, (keep_m (unhide HK2) _ _).drew⟩ | exact ⟨rfl, hP.drew.drew, ((keep_m (unhide HK2) _ _).drew).drew⟩
      · go_wp2_with fail
        go_region_held3 (fun w' => w'.cell? ⟨w.heap.size, 1, none⟩ = some (.int .i64 (dn : Int)) ∧ w'.cell? ⟨M, 1, none⟩ = some (.slice (some ⟨G, 0, none⟩) R R)) (simp [*]) (fail)
        go_wp2_with fail
        go_returns
        rw [unhide HD, unhide HD2, if_neg (by omega)]
        first | exact ⟨rfl, (((unhide HI2).set_reg dn (by omega) t).drew).drew, ((keep_g (unhide HK2) _ _).drew).drew⟩ | exact ⟨rfl, ((unhide HI2).set_reg dn (by omega) t).drew, (keep_g (unhide HK2) _ _).drew⟩ | exact ⟨rfl, ((((unhide HI2).set_reg dn (by omega) t).drew).drew).drew, (((keep_g (unhide HK2) _ _).drew).drew).drew⟩
    · have HR := hide hrk
      clear hrk
      go_enter Tryd.func54, Tryd.ntmps54
      go_wp2_with fail
      obtain ⟨w2, hw2, HI2, HK2, q0, q1, q2, q3⟩ := pass_open 5 (dn : Int) (an : Int) (bn : Int) (unhide HI)
      unfold passW at hw2
      rw [← hw2]
      have m1 := (unhide HI2).rg
      have fg := (unhide HI2).fg
      have fm := (unhide HI2).fm
      have e4 := (unhide HI2).en
      have ca : w2.cell? ⟨G, an, none⟩ = some (.int .i64 y) := by rw [unhide HY]; exact (unhide HI2).regs an (by omega)
      have cb : w2.cell? ⟨G, bn, none⟩ = some (.int .i64 z) := by rw [unhide HZ]; exact (unhide HI2).regs bn (by omega)
      have cd2 := (unhide HI2).regs dn (by omega)
      clear hw2 c0 c4 c5 hf
      go_region_held3 (fun w' => w'.cell? ⟨w.heap.size, 0, none⟩ = some (.int .i64 5) ∧ w'.cell? ⟨w.heap.size, 2, none⟩ = some (.int .i64 (an : Int)) ∧ w'.cell? ⟨w.heap.size, 3, none⟩ = some (.int .i64 (bn : Int)) ∧ w'.cell? ⟨M, 1, none⟩ = some (.slice (some ⟨G, 0, none⟩) R R) ∧ w'.cell? ⟨G, an, none⟩ = some (.int .i64 y) ∧ w'.cell? ⟨G, bn, none⟩ = some (.int .i64 z)) (simp [*])
        ((go_at_call 87; refine (unhide KR _).mono ?_; rintro e w5 ⟨rfl, hw5⟩; rw [hw5]; clear hw5))
      rcases (show t = -1 ∨ 0 ≤ t by have := unhide HR; omega) with rfl | ht0
      · go_wp2_with fail
        go_returns
        rw [unhide HD, unhide HD2, if_pos (by decide)]
        have hP := ((unhide HI2).set_end 1).same (s' := s.next.ended 1 0) rfl rfl rfl rfl (unhide HVAL).symm
        first | exact ⟨rfl, hP.drew, (keep_m (unhide HK2) _ _).drew⟩ | exact ⟨rfl, hP.drew.drew, ((keep_m (unhide HK2) _ _).drew).drew⟩
      · go_wp2_with fail
        go_region_held3 (fun w' => w'.cell? ⟨w.heap.size, 1, none⟩ = some (.int .i64 (dn : Int)) ∧ w'.cell? ⟨M, 1, none⟩ = some (.slice (some ⟨G, 0, none⟩) R R)) (simp [*]) (fail)
        go_wp2_with fail
        go_returns
        rw [unhide HD, unhide HD2, if_neg (by omega)]
        first | exact ⟨rfl, (((unhide HI2).set_reg dn (by omega) t).drew).drew, ((keep_g (unhide HK2) _ _).drew).drew⟩ | exact ⟨rfl, ((unhide HI2).set_reg dn (by omega) t).drew, (keep_g (unhide HK2) _ _).drew⟩ | exact ⟨rfl, ((((unhide HI2).set_reg dn (by omega) t).drew).drew).drew, (((keep_g (unhide HK2) _ _).drew).drew).drew⟩
    · have HR := hide hrk
      clear hrk
      go_enter Tryd.func54, Tryd.ntmps54
      go_wp2_with fail
      obtain ⟨w2, hw2, HI2, HK2, q0, q1, q2, q3⟩ := pass_open 6 (dn : Int) (an : Int) (bn : Int) (unhide HI)
      unfold passW at hw2
      rw [← hw2]
      have m1 := (unhide HI2).rg
      have fg := (unhide HI2).fg
      have fm := (unhide HI2).fm
      have e4 := (unhide HI2).en
      have ca : w2.cell? ⟨G, an, none⟩ = some (.int .i64 y) := by rw [unhide HY]; exact (unhide HI2).regs an (by omega)
      have cb : w2.cell? ⟨G, bn, none⟩ = some (.int .i64 z) := by rw [unhide HZ]; exact (unhide HI2).regs bn (by omega)
      have cd2 := (unhide HI2).regs dn (by omega)
      clear hw2 c0 c4 c5 hf
      go_region_held3 (fun w' => w'.cell? ⟨w.heap.size, 0, none⟩ = some (.int .i64 6) ∧ w'.cell? ⟨w.heap.size, 2, none⟩ = some (.int .i64 (an : Int)) ∧ w'.cell? ⟨w.heap.size, 3, none⟩ = some (.int .i64 (bn : Int)) ∧ w'.cell? ⟨M, 1, none⟩ = some (.slice (some ⟨G, 0, none⟩) R R) ∧ w'.cell? ⟨G, an, none⟩ = some (.int .i64 y) ∧ w'.cell? ⟨G, bn, none⟩ = some (.int .i64 z)) (simp [*])
        ((go_at_call 87; refine (unhide KR _).mono ?_; rintro e w5 ⟨rfl, hw5⟩; rw [hw5]; clear hw5))
      rcases (show t = -1 ∨ 0 ≤ t by have := unhide HR; omega) with rfl | ht0
      · go_wp2_with fail
        go_returns
        rw [unhide HD, unhide HD2, if_pos (by decide)]
        have hP := ((unhide HI2).set_end 1).same (s' := s.next.ended 1 0) rfl rfl rfl rfl (unhide HVAL).symm
        first | exact ⟨rfl, hP.drew, (keep_m (unhide HK2) _ _).drew⟩ | exact ⟨rfl, hP.drew.drew, ((keep_m (unhide HK2) _ _).drew).drew⟩
      · go_wp2_with fail
        go_region_held3 (fun w' => w'.cell? ⟨w.heap.size, 1, none⟩ = some (.int .i64 (dn : Int)) ∧ w'.cell? ⟨M, 1, none⟩ = some (.slice (some ⟨G, 0, none⟩) R R)) (simp [*]) (fail)
        go_wp2_with fail
        go_returns
        rw [unhide HD, unhide HD2, if_neg (by omega)]
        first | exact ⟨rfl, (((unhide HI2).set_reg dn (by omega) t).drew).drew, ((keep_g (unhide HK2) _ _).drew).drew⟩ | exact ⟨rfl, ((unhide HI2).set_reg dn (by omega) t).drew, (keep_g (unhide HK2) _ _).drew⟩ | exact ⟨rfl, ((((unhide HI2).set_reg dn (by omega) t).drew).drew).drew, (((keep_g (unhide HK2) _ _).drew).drew).drew⟩
  · obtain ⟨a0, a1⟩ := unhide HRJ rfl
    obtain ⟨an, rfl⟩ : ∃ an : Nat, a = an := ⟨a.toNat, by omega⟩
    go_enter Tryd.func54, Tryd.ntmps54
    go_wp2_with fail
    go_returns
    have h1 := ((unhide HI).set_at (s.at_ + 1) (z := (s.at_ : Int) + 1) (by omega)).set_at an rfl
    have hsz : ((w.setCell ⟨M, 0, none⟩ (.int .i64 ((s.at_ : Int) + 1))).setCell ⟨M, 0, none⟩ (.int .i64 (an : Int))).heap.size = w.heap.size := by simp
    refine ⟨rfl, (h1.of_block (Below.heap_alloc _ _ _ (by rw [hsz]; exact hM)) (Below.heap_alloc _ _ _ (by rw [hsz]; exact hG)) (Below.heap_alloc _ _ _ (by rw [hsz]; exact hH)) (by simp)).same rfl rfl rfl rfl rfl, (keep_m (keep_m (Keep.refl _ _) _ _) _ _).alloc _⟩
  · obtain ⟨a0, a1⟩ := unhide HRA (.inr (.inr (.inl rfl)))
    obtain ⟨b0, b1⟩ := unhide HRI rfl
    obtain ⟨an, rfl⟩ : ∃ an : Nat, a = an := ⟨a.toNat, by omega⟩
    obtain ⟨bn, rfl⟩ : ∃ bn : Nat, b = bn := ⟨b.toNat, by omega⟩
    go_enter Tryd.func54, Tryd.ntmps54
    go_wp2_with fail
    obtain ⟨w2, hw2, HI2, HK2, q0, q1, q2, q3⟩ := pass_open 8 d (an : Int) (bn : Int) (unhide HI)
    unfold passW at hw2
    rw [← hw2]
    have m1 := (unhide HI2).rg
    have fg := (unhide HI2).fg
    have fh := (unhide HI2).fh
    have fm := (unhide HI2).fm
    have e4 := (unhide HI2).en
    have e0 := (unhide HI2).at_
    clear hw2 c0 c4 c5 hf
    obtain ⟨y, hy⟩ : ∃ y, y = s.regs an := ⟨_, rfl⟩
    have ca : w2.cell? ⟨G, an, none⟩ = some (.int .i64 y) := by rw [hy]; exact (unhide HI2).regs an (by omega)
    have HY := hide hy
    clear hy
    have hy0 := unhide HV an
    rw [← unhide HY] at hy0
    go_region_held3 (fun w' => w'.cell? ⟨w.heap.size, 2, none⟩ = some (.int .i64 (an : Int)) ∧ w'.cell? ⟨M, 1, none⟩ = some (.slice (some ⟨G, 0, none⟩) R R) ∧ w'.cell? ⟨G, an, none⟩ = some (.int .i64 y)) (simp [*]) (fail)
    by_cases hyz : y = 0
    · subst hyz
      have he := hide (show stepSt ⟨8, d, (an : Int), (bn : Int)⟩ s = s.next by show (if s.regs an = 0 then _ else _) = _; rw [if_pos (unhide HY).symm]; rfl)
      go_wp2_with fail
      go_returns
      rw [unhide he]
      exact ⟨rfl, (unhide HI2).drew, (unhide HK2).drew⟩
    · have he := hide (show stepSt ⟨8, d, (an : Int), (bn : Int)⟩ s = s.next.goto bn by show (if s.regs an = 0 then _ else _) = _; rw [if_neg (fun h => hyz ((unhide HY).trans h))]; rfl)
      have hy1 : 0 < y := by omega
      go_wp2_with fail
      go_returns
      rw [unhide he]
      exact ⟨rfl, ((unhide HI2).set_at bn rfl).drew, (keep_m (unhide HK2) _ _).drew⟩
  · go_enter Tryd.func54, Tryd.ntmps54
    go_wp2_with fail
    go_returns
    obtain ⟨w2, hw2, HI2, HK2, q0, q1, q2, q3⟩ := pass_open 9 d a b (unhide HI)
    unfold passW at hw2
    rw [← hw2]
    exact ⟨rfl, (unhide HI2).same rfl rfl rfl rfl rfl, unhide HK2⟩
  · obtain ⟨a0, a1⟩ := unhide HRA (.inr (.inr (.inr (.inr (.inl rfl)))))
    obtain ⟨an, rfl⟩ : ∃ an : Nat, a = an := ⟨a.toNat, by omega⟩
    obtain ⟨w3, hw3⟩ : ∃ w3, w3 = ((w.setCell ⟨M, 0, none⟩ (.int .i64 ((s.at_ : Int) + 1))).setCell ⟨M, 4, none⟩ (.int .i64 0)).alloc (.cells #[.int .i64 10, .int .i64 d, .int .i64 (an : Int), .int .i64 b] 77) := ⟨_, rfl⟩
    have hsz : ((w.setCell ⟨M, 0, none⟩ (.int .i64 ((s.at_ : Int) + 1))).setCell ⟨M, 4, none⟩ (.int .i64 0)).heap.size = w.heap.size := by simp
    have h1 := ((unhide HI).set_at (s.at_ + 1) (z := (s.at_ : Int) + 1) (by omega)).set_end 0
    have HI3 : Hid (MomB w3 M G H R V ((s.goto (s.at_ + 1)).ended 0 s.val)) := by
      rw [hw3]
      exact h1.of_block (Below.heap_alloc _ _ _ (by rw [hsz]; exact hM)) (Below.heap_alloc _ _ _ (by rw [hsz]; exact hG)) (Below.heap_alloc _ _ _ (by rw [hsz]; exact hH)) (by simp)
    have HK3 : Hid (Keep (Mine M G H) w w3) := by rw [hw3]; exact (keep_m (keep_m (Keep.refl _ _) _ _) _ _).alloc _
    have q2 : w3.cell? ⟨w.heap.size, 2, none⟩ = some (.int .i64 (an : Int)) := by rw [hw3, World.cell?_alloc_at (hn := hsz.symm)]; rfl
    have m1 := (unhide HI3).rg
    have fm := (unhide HI3).fm
    have m5 : w3.cell? ⟨M, 5, none⟩ = some (.int .i64 s.val) := (unhide HI3).vl
    obtain ⟨y, hy⟩ : ∃ y, y = s.regs an := ⟨_, rfl⟩
    have ca : w3.cell? ⟨G, an, none⟩ = some (.int .i64 y) := by rw [hy]; exact (unhide HI3).regs an (by omega)
    have HY := hide hy
    have HW := hide hw3
    have hk5 : ∀ (wq : World) (z : Value), (wq.setCell ⟨M, 5, none⟩ z).cell? ⟨M, 1, none⟩ = wq.cell? ⟨M, 1, none⟩ := fun wq z => World.cell?_setCell_other _ _ _ _ (fun e => by injection e with e1 e2; omega)
    clear hy hw3 h1 hsz
    go_enter Tryd.func54, Tryd.ntmps54
    go_wp2_with fail
    rw [← unhide HW]
    clear c0 c4 c5 hf
    go_region_held3 (fun w' => w'.cell? ⟨w.heap.size, 2, none⟩ = some (.int .i64 (an : Int)) ∧ w'.cell? ⟨M, 1, none⟩ = some (.slice (some ⟨G, 0, none⟩) R R) ∧ w'.cell? ⟨G, an, none⟩ = some (.int .i64 y)) (simp [*]) (fail)
    go_wp2_with fail
    go_returns
    have hP := (((unhide HI3).set_val y).drew).same (s' := stepSt ⟨10, d, (an : Int), b⟩ s) rfl rfl rfl rfl (by show s.regs an = y; rw [unhide HY])
    exact ⟨rfl, hP, (keep_m (unhide HK3) _ _).drew⟩
  · go_enter Tryd.func54, Tryd.ntmps54
    go_wp2_with fail
    go_returns
    obtain ⟨w2, hw2, HI2, HK2, q0, q1, q2, q3⟩ := pass_open 11 d a b (unhide HI)
    unfold passW at hw2
    rw [← hw2]
    exact ⟨rfl, (unhide HI2).same rfl rfl rfl rfl rfl, unhide HK2⟩
  · obtain ⟨d0, d1⟩ := unhide HRV (by decide)
    obtain ⟨a0, a1⟩ := unhide HRA (.inr (.inr (.inr (.inr (.inr rfl)))))
    obtain ⟨dn, rfl⟩ : ∃ dn : Nat, d = dn := ⟨d.toNat, by omega⟩
    obtain ⟨an, rfl⟩ : ∃ an : Nat, a = an := ⟨a.toNat, by omega⟩
    go_enter Tryd.func54, Tryd.ntmps54
    go_wp2_with fail
    obtain ⟨w2, hw2, HI2, HK2, q0, q1, q2, q3⟩ := pass_open 12 (dn : Int) (an : Int) b (unhide HI)
    unfold passW at hw2
    rw [← hw2]
    have m1 := (unhide HI2).rg
    have m3 : w2.cell? ⟨M, 3, none⟩ = some (.slice (some ⟨H, 0, none⟩) V V) := by have h := (unhide HI2).vr; rw [show s.next.env.vc = 3 from (by have := unhide HPU; show s.env.vc = 3; omega)] at h; exact h
    have fg := (unhide HI2).fg
    have fh := (unhide HI2).fh
    have fm := (unhide HI2).fm
    have e4 := (unhide HI2).en
    have e0 := (unhide HI2).at_
    clear hw2 c0 c4 c5 hf
    obtain ⟨y, hy⟩ : ∃ y, y = s.regs an := ⟨_, rfl⟩
    have ca : w2.cell? ⟨G, an, none⟩ = some (.int .i64 y) := by rw [hy]; exact (unhide HI2).regs an (by omega)
    have HY := hide hy
    clear hy
    have cd2 := (unhide HI2).vars dn (by omega)
    go_region_held3 (fun w' => w'.cell? ⟨w.heap.size, 1, none⟩ = some (.int .i64 (dn : Int)) ∧ w'.cell? ⟨w.heap.size, 2, none⟩ = some (.int .i64 (an : Int)) ∧ w'.cell? ⟨M, 3, none⟩ = some (.slice (some ⟨H, 0, none⟩) V V) ∧ w'.cell? ⟨M, 1, none⟩ = some (.slice (some ⟨G, 0, none⟩) R R) ∧ w'.cell? ⟨G, an, none⟩ = some (.int .i64 y)) (simp [*]) (fail)
    go_wp2_with fail
    go_returns
    have hP := (((unhide HI2).set_var dn (by omega) y).drew).same (s' := stepSt ⟨12, (dn : Int), (an : Int), b⟩ s) rfl rfl (by show upd s.vars dn (s.regs an) = upd s.vars dn y; rw [unhide HY]) rfl rfl
    exact ⟨rfl, hP, (keep_h (unhide HK2) _ _).drew⟩
  · obtain ⟨d0, d1⟩ := unhide HRV (by decide)
    obtain ⟨dn, rfl⟩ : ∃ dn : Nat, d = dn := ⟨d.toNat, by omega⟩
    go_enter Tryd.func54, Tryd.ntmps54
    go_wp2_with fail
    obtain ⟨w2, hw2, HI2, HK2, q0, q1, q2, q3⟩ := pass_open 13 (dn : Int) a b (unhide HI)
    unfold passW at hw2
    rw [← hw2]
    have m1 := (unhide HI2).rg
    have m3 : w2.cell? ⟨M, 3, none⟩ = some (.slice (some ⟨H, 0, none⟩) V V) := by have h := (unhide HI2).vr; rw [show s.next.env.vc = 3 from (by have := unhide HPU; show s.env.vc = 3; omega)] at h; exact h
    have fg := (unhide HI2).fg
    have fh := (unhide HI2).fh
    have fm := (unhide HI2).fm
    have e4 := (unhide HI2).en
    have e0 := (unhide HI2).at_
    clear hw2 c0 c4 c5 hf
    have cd2 := (unhide HI2).vars dn (by omega)
    go_region_held3 (fun w' => w'.cell? ⟨w.heap.size, 1, none⟩ = some (.int .i64 (dn : Int)) ∧ w'.cell? ⟨w.heap.size, 2, none⟩ = some (.int .i64 a) ∧ w'.cell? ⟨M, 3, none⟩ = some (.slice (some ⟨H, 0, none⟩) V V)) (simp [*]) (fail)
    go_wp2_with fail
    go_returns
    exact ⟨rfl, (((unhide HI2).set_var dn (by omega) a).drew).same rfl rfl rfl rfl rfl, (keep_h (unhide HK2) _ _).drew⟩
  · obtain ⟨d0, d1⟩ := unhide HRV (by decide)
    obtain ⟨dn, rfl⟩ : ∃ dn : Nat, d = dn := ⟨d.toNat, by omega⟩
    go_enter Tryd.func54, Tryd.ntmps54
    go_wp2_with fail
    obtain ⟨w2, hw2, HI2, HK2, q0, q1, q2, q3⟩ := pass_open 14 (dn : Int) a b (unhide HI)
    unfold passW at hw2
    rw [← hw2]
    have m1 := (unhide HI2).rg
    have m3 : w2.cell? ⟨M, 3, none⟩ = some (.slice (some ⟨H, 0, none⟩) V V) := by have h := (unhide HI2).vr; rw [show s.next.env.vc = 3 from (by have := unhide HPU; show s.env.vc = 3; omega)] at h; exact h
    have fg := (unhide HI2).fg
    have fh := (unhide HI2).fh
    have fm := (unhide HI2).fm
    have e4 := (unhide HI2).en
    have e0 := (unhide HI2).at_
    clear hw2 c0 c4 c5 hf
    have cd2 := (unhide HI2).vars dn (by omega)
    go_region_held3 (fun w' => w'.cell? ⟨w.heap.size, 1, none⟩ = some (.int .i64 (dn : Int)) ∧ w'.cell? ⟨M, 3, none⟩ = some (.slice (some ⟨H, 0, none⟩) V V)) (simp [*]) (fail)
    go_wp2_with fail
    go_returns
    exact ⟨rfl, (((unhide HI2).set_var dn (by omega) (-1)).drew).same rfl rfl rfl rfl rfl, (keep_h (unhide HK2) _ _).drew⟩
  · obtain ⟨⟨d0, d1⟩, a0, a1⟩ := unhide HRL rfl
    obtain ⟨dn, rfl⟩ : ∃ dn : Nat, d = dn := ⟨d.toNat, by omega⟩
    obtain ⟨an, rfl⟩ : ∃ an : Nat, a = an := ⟨a.toNat, by omega⟩
    go_enter Tryd.func54, Tryd.ntmps54
    go_wp2_with fail
    obtain ⟨w2, hw2, HI2, HK2, q0, q1, q2, q3⟩ := pass_open 15 (dn : Int) (an : Int) b (unhide HI)
    unfold passW at hw2
    rw [← hw2]
    have m1 := (unhide HI2).rg
    have m2 : w2.cell? ⟨M, 2, none⟩ = some (.slice (some ⟨H, 0, none⟩) V V) := by have h := (unhide HI2).vr; rw [show s.next.env.vc = 2 from (by have := unhide HPU; show s.env.vc = 2; omega)] at h; exact h
    have fg := (unhide HI2).fg
    have fh := (unhide HI2).fh
    have fm := (unhide HI2).fm
    have e4 := (unhide HI2).en
    have e0 := (unhide HI2).at_
    clear hw2 c0 c4 c5 hf
    obtain ⟨y, hy⟩ : ∃ y, y = s.vars an := ⟨_, rfl⟩
    have ca : w2.cell? ⟨H, an, none⟩ = some (.int .i64 y) := by rw [hy]; exact (unhide HI2).vars an (by omega)
    have HY := hide hy
    clear hy
    have cd2 := (unhide HI2).regs dn (by omega)
    go_region_held3 (fun w' => w'.cell? ⟨w.heap.size, 1, none⟩ = some (.int .i64 (dn : Int)) ∧ w'.cell? ⟨w.heap.size, 2, none⟩ = some (.int .i64 (an : Int)) ∧ w'.cell? ⟨M, 2, none⟩ = some (.slice (some ⟨H, 0, none⟩) V V) ∧ w'.cell? ⟨M, 1, none⟩ = some (.slice (some ⟨G, 0, none⟩) R R) ∧ w'.cell? ⟨H, an, none⟩ = some (.int .i64 y)) (simp [*]) (fail)
    go_wp2_with fail
    go_returns
    have hP := (((unhide HI2).set_reg dn (by omega) y).drew).same (s' := stepSt ⟨15, (dn : Int), (an : Int), b⟩ s) rfl (by show upd s.regs dn (s.vars an) = upd s.regs dn y; rw [unhide HY]) rfl rfl rfl
    exact ⟨rfl, hP, (keep_g (unhide HK2) _ _).drew⟩
  · obtain ⟨⟨d0, d1⟩, a0, a1⟩ := unhide HRT rfl
    obtain ⟨dn, rfl⟩ : ∃ dn : Nat, d = dn := ⟨d.toNat, by omega⟩
    obtain ⟨an, rfl⟩ : ∃ an : Nat, a = an := ⟨a.toNat, by omega⟩
    go_enter Tryd.func54, Tryd.ntmps54
    go_wp2_with fail
    obtain ⟨w2, hw2, HI2, HK2, q0, q1, q2, q3⟩ := pass_open 16 (dn : Int) (an : Int) b (unhide HI)
    unfold passW at hw2
    rw [← hw2]
    have m1 := (unhide HI2).rg
    have m2 : w2.cell? ⟨M, 2, none⟩ = some (.slice (some ⟨H, 0, none⟩) V V) := by have h := (unhide HI2).vr; rw [show s.next.env.vc = 2 from (by have := unhide HPU; show s.env.vc = 2; omega)] at h; exact h
    have fg := (unhide HI2).fg
    have fh := (unhide HI2).fh
    have fm := (unhide HI2).fm
    have e4 := (unhide HI2).en
    have e0 := (unhide HI2).at_
    clear hw2 c0 c4 c5 hf
    obtain ⟨y, hy⟩ : ∃ y, y = s.regs an := ⟨_, rfl⟩
    have ca : w2.cell? ⟨G, an, none⟩ = some (.int .i64 y) := by rw [hy]; exact (unhide HI2).regs an (by omega)
    have HY := hide hy
    clear hy
    have cd2 := (unhide HI2).vars dn (by omega)
    go_region_held3 (fun w' => w'.cell? ⟨w.heap.size, 1, none⟩ = some (.int .i64 (dn : Int)) ∧ w'.cell? ⟨w.heap.size, 2, none⟩ = some (.int .i64 (an : Int)) ∧ w'.cell? ⟨M, 2, none⟩ = some (.slice (some ⟨H, 0, none⟩) V V) ∧ w'.cell? ⟨M, 1, none⟩ = some (.slice (some ⟨G, 0, none⟩) R R) ∧ w'.cell? ⟨G, an, none⟩ = some (.int .i64 y)) (simp [*]) (fail)
    go_wp2_with fail
    go_returns
    have hP := (((unhide HI2).set_var dn (by omega) y).drew).same (s' := stepSt ⟨16, (dn : Int), (an : Int), b⟩ s) rfl rfl (by show upd s.vars dn (s.regs an) = upd s.vars dn y; rw [unhide HY]) rfl rfl
    exact ⟨rfl, hP, (keep_h (unhide HK2) _ _).drew⟩
end Go.Proofs.YtoepcplbpochpaaDoor

/-
  The document's own run: new lists of one number (lodgeref.filled), and what is seen at a Stop (lodgeref.seen).
-/
namespace Go.Proofs.YtoepcplbpochpaaDoor
open Go.RowKit

/-- What filled gives: a new row of n numbers v. -/
def FilledPost (w : World) (n : Nat) (v : Int) (e : Ending) (w' : World) : Prop :=
  e = .returned (.slice (some ⟨w.heap.size, 0, none⟩) n n) ∧ (∃ cs, w'.heap[w.heap.size]? = some (.cells cs 3 (0, 0)) ∧ cs.size = n ∧ ∀ i, i < n → cs[i]? = some (.int .i64 v)) ∧ w'.heap.size = w.heap.size + 1 ∧ Below w.heap.size w w'

theorem Tryd.i3 : (Tryd.prog.info? 3).map (fun i => (i.zero, i.size, i.bytes)) = some (some (.int .i64 0), 1, 8) := by kernel_rfl

set_option maxRecDepth 100000 in
set_option maxHeartbeats 1000000 in
theorem filled_any (n : Nat) (v : Int) (w : World) (hn : n ≤ 16) : Calls Tryd.prog 52 #[.int .i64 (n : Int), .int .i64 v] w (FilledPost w n v) := by
  obtain ⟨i0, hi, hz0, hz1, hz2⟩ := info_parts Tryd.i3
  have hmk : ∀ w : World, (Instr.makeSlice 32 (.int .i64 (n : Int)) (.int .i64 (n : Int))).run Tryd.prog w = .ok (.slice (some ⟨w.heap.size, 0, none⟩) n n) (w.alloc (.cells (madeCells (Value.int .i64 0).cells (n * 1)) 3)) := fun w => by
    have := run_make (P := Tryd.prog) w 32 3 i0 (.int .i64 0) Tryd.underlying32 hi hz0 .i64 .i64 (n : Int) (n : Int) (by omega) (by omega) (by rw [hz2]; omega) (by omega)
    rw [hz1] at this
    simpa using this
  clear hi hz0 hz1 hz2
  go_enter Tryd.func52, Tryd.ntmps52
  go_wp2_with fail
  obtain ⟨w1, hw1⟩ : ∃ w1, w1 = w.alloc (.cells (madeCells #[Value.int .i64 0] n) 3) := ⟨_, rfl⟩
  rw [← hw1]
  have HG1 : Hid (∃ cs, w1.heap[w.heap.size]? = some (.cells cs 3 (0, 0)) ∧ cs.size = n ∧ ∀ i, i < 0 → cs[i]? = some (.int .i64 v)) := by
    rw [hw1]; exact ⟨_, heap_alloc_new _ _, by simp [madeCells], fun i hi => absurd hi (by omega)⟩
  have hz1 : w1.heap.size = w.heap.size + 1 := by rw [hw1]; simp
  have HB1 : Hid (Below w.heap.size w w1) := by rw [hw1]; exact (Below.refl _ _).alloc (Nat.le_refl _) _
  clear hw1 hmk
  go_loopw [6] (fun i wr => ∃ k : Nat, k ≤ n ∧ i = .int .i64 k ∧ Hid (∃ cs, wr.heap[w.heap.size]? = some (.cells cs 3 (0, 0)) ∧ cs.size = n ∧ ∀ i, i < k → cs[i]? = some (.int .i64 v)) ∧ Hid (wr.heap.size = w.heap.size + 1) ∧ Hid (Below w.heap.size w wr)) (fun i _ => n - (intOf i).toNat)
  case atStart => exact ⟨0, Nat.zero_le _, rfl, unhide HG1, hz1, unhide HB1⟩
  case round =>
    obtain ⟨k, hk, rfl, HG, HZ, HB⟩ := hrel
    by_cases hlt : k < n
    · obtain ⟨cs, h1, h2, h3⟩ := unhide HG
      have ck : wr.cell? ⟨w.heap.size, k, none⟩ = some (cs[k]'(by omega)) := by rw [cell_of_row wr _ k cs 3 (0, 0) h1]; exact Array.getElem?_eq_getElem _
      obtain ⟨u, hu⟩ : ∃ u, u = cs[k]'(by omega) := ⟨_, rfl⟩
      rw [← hu] at ck
      have hf : wr.frozen? ⟨w.heap.size, k, none⟩ = false := by simp [World.frozen?, h1]
      have HN : Hid (∃ cs, (wr.setCell ⟨w.heap.size, k, none⟩ (.int .i64 v)).heap[w.heap.size]? = some (.cells cs 3 (0, 0)) ∧ cs.size = n ∧ ∀ i, i < k + 1 → cs[i]? = some (.int .i64 v)) := by
        refine ⟨_, heap_setCell_same wr _ k cs 3 _ h1, by rw [Array.size_setIfInBounds]; exact h2, fun i hi => ?_⟩
        by_cases hik : i = k
        · subst hik; rw [Array.getElem?_setIfInBounds_self_of_lt (by omega)]
        · rw [Array.getElem?_setIfInBounds_ne (by omega)]; exact h3 i (by omega)
      clear h1 h2 h3 hu
      go_wp2
      go_roundw
      case rel => exact ⟨k + 1, by omega, by go_num, unhide HN, by unfold Hid; rw [World.size_setCell]; exact unhide HZ, (unhide HB).setCell (p := ⟨w.heap.size, k, none⟩) (Nat.le_refl _) _⟩
      case measure => simp [intOf]; omega
    · obtain rfl : k = n := by omega
      go_wp2
      go_ret
      exact ⟨rfl, unhide HG, unhide HZ, unhide HB⟩

set_option maxRecDepth 100000 in
set_option maxHeartbeats 4000000 in
theorem seen_any (m : Int) (H V : Nat) (f : Nat → Int) (w : World) (hV : V ≤ 4) (hH : H < w.heap.size) (hc : ∀ i, i < V → w.cell? ⟨H, i, none⟩ = some (.int .i64 (f i))) (hf : ∀ i : Nat, V ≤ i → f i = -1) :
    Calls Tryd.prog 53 #[.int .i64 m, .slice (some ⟨H, 0, none⟩) V V] w fun e w' => e = .returned (.agg #[.int .i64 m, .int .i64 (f 0), .int .i64 (f 1), .int .i64 (f 2), .int .i64 (f 3)]) ∧ Below w.heap.size w w' := by
  have HF := hide hf
  have HC := hide hc
  obtain ⟨x0, h0⟩ : ∃ x, x = f 0 := ⟨_, rfl⟩
  obtain ⟨x1, h1⟩ : ∃ x, x = f 1 := ⟨_, rfl⟩
  obtain ⟨x2, h2⟩ : ∃ x, x = f 2 := ⟨_, rfl⟩
  obtain ⟨x3, h3⟩ : ∃ x, x = f 3 := ⟨_, rfl⟩
  rw [← h0, ← h1, ← h2, ← h3]
  have H0 := hide h0
  have H1 := hide h1
  have H2 := hide h2
  have H3 := hide h3
  clear h0 h1 h2 h3 hf hc
  rcases (show V = 0 ∨ V = 1 ∨ V = 2 ∨ V = 3 ∨ V = 4 by omega) with rfl | rfl | rfl | rfl | rfl
  · obtain rfl : x0 = -1 := (unhide H0).trans (unhide HF 0 (by omega))
    obtain rfl : x1 = -1 := (unhide H1).trans (unhide HF 1 (by omega))
    obtain rfl : x2 = -1 := (unhide H2).trans (unhide HF 2 (by omega))
    obtain rfl : x3 = -1 := (unhide H3).trans (unhide HF 3 (by omega))
    go_enter Tryd.func53, Tryd.ntmps53
    go_wp2
    refine wp_loop_rounds 5 ?_
    iterate 4 (rw [rounds_succ]; go_wp2)
    rw [rounds_succ]
    go_wp2
    go_returns
    exact ⟨rfl, ((Below.refl _ _).alloc (Nat.le_refl _) _).alloc (by simp) _⟩
  · have c0 : w.cell? ⟨H, 0, none⟩ = some (.int .i64 x0) := by rw [unhide H0]; exact unhide HC 0 (by omega)
    obtain rfl : x1 = -1 := (unhide H1).trans (unhide HF 1 (by omega))
    obtain rfl : x2 = -1 := (unhide H2).trans (unhide HF 2 (by omega))
    obtain rfl : x3 = -1 := (unhide H3).trans (unhide HF 3 (by omega))
    go_enter Tryd.func53, Tryd.ntmps53
    go_wp2
    refine wp_loop_rounds 5 ?_
    iterate 4 (rw [rounds_succ]; go_wp2)
    rw [rounds_succ]
    go_wp2
    go_returns
    exact ⟨rfl, ((Below.refl _ _).alloc (Nat.le_refl _) _).alloc (by simp) _⟩
  · have c0 : w.cell? ⟨H, 0, none⟩ = some (.int .i64 x0) := by rw [unhide H0]; exact unhide HC 0 (by omega)
    have c1 : w.cell? ⟨H, 1, none⟩ = some (.int .i64 x1) := by rw [unhide H1]; exact unhide HC 1 (by omega)
    obtain rfl : x2 = -1 := (unhide H2).trans (unhide HF 2 (by omega))
    obtain rfl : x3 = -1 := (unhide H3).trans (unhide HF 3 (by omega))
    go_enter Tryd.func53, Tryd.ntmps53
    go_wp2
    refine wp_loop_rounds 5 ?_
    iterate 4 (rw [rounds_succ]; go_wp2)
    rw [rounds_succ]
    go_wp2
    go_returns
    exact ⟨rfl, ((Below.refl _ _).alloc (Nat.le_refl _) _).alloc (by simp) _⟩
  · have c0 : w.cell? ⟨H, 0, none⟩ = some (.int .i64 x0) := by rw [unhide H0]; exact unhide HC 0 (by omega)
    have c1 : w.cell? ⟨H, 1, none⟩ = some (.int .i64 x1) := by rw [unhide H1]; exact unhide HC 1 (by omega)
    have c2 : w.cell? ⟨H, 2, none⟩ = some (.int .i64 x2) := by rw [unhide H2]; exact unhide HC 2 (by omega)
    obtain rfl : x3 = -1 := (unhide H3).trans (unhide HF 3 (by omega))
    go_enter Tryd.func53, Tryd.ntmps53
    go_wp2
    refine wp_loop_rounds 5 ?_
    iterate 4 (rw [rounds_succ]; go_wp2)
    rw [rounds_succ]
    go_wp2
    go_returns
    exact ⟨rfl, ((Below.refl _ _).alloc (Nat.le_refl _) _).alloc (by simp) _⟩
  · have c0 : w.cell? ⟨H, 0, none⟩ = some (.int .i64 x0) := by rw [unhide H0]; exact unhide HC 0 (by omega)
    have c1 : w.cell? ⟨H, 1, none⟩ = some (.int .i64 x1) := by rw [unhide H1]; exact unhide HC 1 (by omega)
    have c2 : w.cell? ⟨H, 2, none⟩ = some (.int .i64 x2) := by rw [unhide H2]; exact unhide HC 2 (by omega)
    have c3 : w.cell? ⟨H, 3, none⟩ = some (.int .i64 x3) := by rw [unhide H3]; exact unhide HC 3 (by omega)
    go_enter Tryd.func53, Tryd.ntmps53
    go_wp2
    refine wp_loop_rounds 5 ?_
    iterate 4 (rw [rounds_succ]; go_wp2)
    rw [rounds_succ]
    go_wp2
    go_returns
    exact ⟨rfl, ((Below.refl _ _).alloc (Nat.le_refl _) _).alloc (by simp) _⟩
end Go.Proofs.YtoepcplbpochpaaDoor
