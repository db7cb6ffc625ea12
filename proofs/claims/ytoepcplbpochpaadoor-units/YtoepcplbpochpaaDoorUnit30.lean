/-
  What (*lodgeref.Moment).pass does to a moment: a step of the run.
-/
import Derived.Test.YtoepcplbpochpaaDoorUnit29

namespace Go.Proofs.YtoepcplbpochpaaDoor
open Go.RowKit

theorem pre_low (x : In4) (s : St) (h : x.op ≤ 10) : preSt x s = s := by
  unfold preSt; rw [if_neg (by omega), if_neg (by omega), if_neg (by omega), if_neg (by omega), if_neg (by omega), if_neg (by omega)]
theorem do_high (x : In4) (s : St) (h : 11 ≤ x.op) : doSt x s = s.next := by
  unfold doSt; rw [if_neg (by omega), if_neg (by omega), if_neg (by omega), if_neg (by omega), if_neg (by omega), if_neg (by omega), if_neg (by omega)]

set_option maxRecDepth 100000 in
set_option maxHeartbeats 8000000 in
theorem pass_any (M G H R V : Nat) (s : St) (x : In4) (n : Int) (w : World) (h : MomB w M G H R V s) (hx : Right R n V x)
    (hv : ∀ i, 0 ≤ s.regs i ∧ s.regs i ≤ 65535) (hat : s.at_ ≤ 1000) (hval : s.val = 0) (hpu : (s.env.vc = 3 ∧ x.op ≤ 14) ∨ (s.env.vc = 2 ∧ (x.op ≤ 11 ∨ 15 ≤ x.op))) :
    Calls Tryd.prog 54 #[.pointer (some ⟨M, 0, none⟩), .agg #[.int .i64 x.op, .int .i64 x.d, .int .i64 x.a, .int .i64 x.b]] w (PassPost w M G H R V (stepSt x s)) := by
  have hM := h.im
  have hG := h.ig
  have hH := h.ih
  obtain ⟨op, d, a, b⟩ := x
  obtain ⟨o0, o1, rD, rA, rB, rC, rJ, rI, rS, rV, rL, rT⟩ := hx
  simp only at o0 o1 rD rA rB rC rJ rI rS rV rL rT hpu ⊢
  have HI := hide h
  have HV := hide hv
  have HVAL := hide hval
  have HRD := hide rD
  have HRA := hide rA
  have HRB := hide rB
  have HRC := hide rC
  have HRJ := hide rJ
  have HRI := hide rI
  have HRV := hide rV
  have HRL := hide rL
  have HRT := hide rT
  have HPU := hide hpu
  have hx1 : ∀ (wq : World) (j o : Nat) (z : Value), (wq.setCell ⟨M, j, none⟩ z).cell? ⟨w.heap.size, o, none⟩ = wq.cell? ⟨w.heap.size, o, none⟩ := fun wq j o z => World.cell?_setCell_other _ _ _ _ (fun e => by injection e with e1; omega)
  have hx2 : ∀ (wq : World) (j o : Nat) (z : Value), (wq.setCell ⟨G, j, none⟩ z).cell? ⟨w.heap.size, o, none⟩ = wq.cell? ⟨w.heap.size, o, none⟩ := fun wq j o z => World.cell?_setCell_other _ _ _ _ (fun e => by injection e with e1; omega)
  have hx3 : ∀ (wq : World) (j o : Nat) (z : Value), (wq.setCell ⟨H, j, none⟩ z).cell? ⟨w.heap.size, o, none⟩ = wq.cell? ⟨w.heap.size, o, none⟩ := fun wq j o z => World.cell?_setCell_other _ _ _ _ (fun e => by injection e with e1; omega)
  have hk1 : ∀ (wq : World) (j o : Nat) (z : Value), (wq.setCell ⟨G, j, none⟩ z).cell? ⟨M, o, none⟩ = wq.cell? ⟨M, o, none⟩ := fun wq j o z => World.cell?_setCell_other _ _ _ _ (fun e => (unhide HI).mg (by injection e with e1; exact e1.symm))
  have hk2 : ∀ (wq : World) (j o : Nat) (z : Value), (wq.setCell ⟨H, j, none⟩ z).cell? ⟨M, o, none⟩ = wq.cell? ⟨M, o, none⟩ := fun wq j o z => World.cell?_setCell_other _ _ _ _ (fun e => (unhide HI).mh (by injection e with e1; exact e1.symm))
  have hk3 : ∀ (wq : World) (j o : Nat) (z : Value), (wq.setCell ⟨H, j, none⟩ z).cell? ⟨G, o, none⟩ = wq.cell? ⟨G, o, none⟩ := fun wq j o z => World.cell?_setCell_other _ _ _ _ (fun e => (unhide HI).gh (by injection e with e1; exact e1.symm))
  have hk4 : ∀ (wq : World) (j o : Nat) (z : Value), (wq.setCell ⟨M, j, none⟩ z).cell? ⟨G, o, none⟩ = wq.cell? ⟨G, o, none⟩ := fun wq j o z => World.cell?_setCell_other _ _ _ _ (fun e => (unhide HI).mg (by injection e with e1))
  have c0 : w.cell? ⟨M, 0, none⟩ = some (.int .i64 (s.at_ : Int)) := h.at_
  have c4 : w.cell? ⟨M, 4, none⟩ = some (.int .i64 (endI s)) := h.en
  have c5 : w.cell? ⟨M, 5, none⟩ = some (.int .i64 s.val) := h.vl
  have hf : ∀ o, w.frozen? ⟨M, o, none⟩ = false := h.fm
  have hk5 : ∀ (wq : World) (j o : Nat) (z : Value), (wq.setCell ⟨G, j, none⟩ z).cell? ⟨H, o, none⟩ = wq.cell? ⟨H, o, none⟩ := fun wq j o z => World.cell?_setCell_other _ _ _ _ (fun e => (unhide HI).gh (by injection e with e1))
  clear h hv hval hpu rD rA rB rC rJ rI rS rV rL rT
  rcases (show op = 0 ∨ op = 1 ∨ (2 ≤ op ∧ op ≤ 6) ∨ op = 7 ∨ op = 8 ∨ op = 9 ∨ op = 10 ∨ op = 11 ∨ op = 12 ∨ op = 13 ∨ op = 14 ∨ op = 15 ∨ op = 16 by omega) with rfl | rfl | ho | rfl | rfl | rfl | rfl | rfl | rfl | rfl | rfl | rfl | rfl
  · obtain ⟨d0, d1⟩ := unhide HRD (.inl rfl)
    obtain ⟨dn, rfl⟩ : ∃ dn : Nat, d = dn := ⟨d.toNat, by omega⟩
    have cd := (unhide HI).regs dn (by omega)
    go_enter Tryd.func54, Tryd.ntmps54
    go_wp2_with fail
    obtain ⟨w2, hw2, HI2, HK2, q0, q1, q2, q3⟩ := pass_open 0 (dn : Int) a b (unhide HI)
    unfold passW at hw2
    rw [← hw2]
    have m1 := (unhide HI2).rg
    have fg := (unhide HI2).fg
    have fh := (unhide HI2).fh
    have fm := (unhide HI2).fm
    have e4 := (unhide HI2).en
    have e0 := (unhide HI2).at_
    clear hw2 c0 c4 c5 hf
    have cd2 := (unhide HI2).regs dn (by omega)
    clear cd
    go_region_held3 (fun w' => w'.cell? ⟨w.heap.size, 1, none⟩ = some (.int .i64 (dn : Int)) ∧ w'.cell? ⟨w.heap.size, 2, none⟩ = some (.int .i64 a) ∧ w'.cell? ⟨M, 1, none⟩ = some (.slice (some ⟨G, 0, none⟩) R R)) (simp [*]) (fail)
    go_wp2_with fail
    go_returns
    exact ⟨rfl, ((unhide HI2).set_reg dn (by omega) a).drew, (keep_g (unhide HK2) _ _).drew⟩
  · obtain ⟨d0, d1⟩ := unhide HRD (.inr (.inl rfl))
    obtain ⟨a0, a1⟩ := unhide HRA (.inl rfl)
    obtain ⟨dn, rfl⟩ : ∃ dn : Nat, d = dn := ⟨d.toNat, by omega⟩
    obtain ⟨an, rfl⟩ : ∃ an : Nat, a = an := ⟨a.toNat, by omega⟩
    go_enter Tryd.func54, Tryd.ntmps54
    go_wp2_with fail
    obtain ⟨w2, hw2, HI2, HK2, q0, q1, q2, q3⟩ := pass_open 1 (dn : Int) (an : Int) b (unhide HI)
    unfold passW at hw2
    rw [← hw2]
    have m1 := (unhide HI2).rg
    have fg := (unhide HI2).fg
    have fh := (unhide HI2).fh
    have fm := (unhide HI2).fm
    have e4 := (unhide HI2).en
    have e0 := (unhide HI2).at_
    clear hw2 c0 c4 c5 hf
    obtain ⟨y, hy⟩ : ∃ y, y = s.regs an := ⟨_, rfl⟩
    have ca : w2.cell? ⟨G, an, none⟩ = some (.int .i64 y) := by rw [hy]; exact (unhide HI2).regs an (by omega)
    have HY := hide hy
    clear hy
    have cd2 := (unhide HI2).regs dn (by omega)
    have hkc : ∀ wq : World, wq.cell? ⟨G, an, none⟩ = some (.int .i64 y) → (wq.setCell ⟨G, dn, none⟩ (.int .i64 y)).cell? ⟨G, an, none⟩ = some (.int .i64 y) := fun wq hq => by
      by_cases e : an = dn
      · subst e; exact cell_put hq
      · exact cell_set hq e
    go_region_held3 (fun w' => w'.cell? ⟨w.heap.size, 1, none⟩ = some (.int .i64 (dn : Int)) ∧ w'.cell? ⟨w.heap.size, 2, none⟩ = some (.int .i64 (an : Int)) ∧ w'.cell? ⟨M, 1, none⟩ = some (.slice (some ⟨G, 0, none⟩) R R) ∧ w'.cell? ⟨G, an, none⟩ = some (.int .i64 y)) (simp [*]) (fail)
    go_wp2_with fail
    go_returns
    have hP := ((unhide HI2).set_reg dn (by omega) y).drew
    rw [unhide HY] at hP ⊢
    exact ⟨rfl, hP, (keep_g (unhide HK2) _ _).drew⟩
  · obtain ⟨d0, d1⟩ := unhide HRD (.inr (.inr ho))
    obtain ⟨a0, a1⟩ := unhide HRA (.inr (.inl ho))
    obtain ⟨b0, b1⟩ := unhide HRB ho
    obtain ⟨dn, rfl⟩ : ∃ dn : Nat, d = dn := ⟨d.toNat, by omega⟩
    obtain ⟨an, rfl⟩ : ∃ an : Nat, a = an := ⟨a.toNat, by omega⟩
    obtain ⟨bn, rfl⟩ : ∃ bn : Nat, b = bn := ⟨b.toNat, by omega⟩
    have HD : Hid (stepSt ⟨op, (dn : Int), (an : Int), (bn : Int)⟩ s = s.next.reckon op dn an bn) := by
      unfold Hid stepSt
      rw [pre_low _ _ (show op ≤ 10 by omega)]
      unfold doSt
      simp only [Int.toNat_natCast]
      rw [if_neg (by omega), if_neg (by omega), if_neg (by omega), if_neg (by omega), if_neg (by omega), if_neg (by omega), if_pos ho]
    obtain ⟨y, hy⟩ : ∃ y, y = s.regs an := ⟨_, rfl⟩
    obtain ⟨z, hz⟩ : ∃ z, z = s.regs bn := ⟨_, rfl⟩
    have va := unhide HV an
    have vb := unhide HV bn
    rw [← hy] at va
    rw [← hz] at vb
    have KR := hide (fun w => reach_any op y z w (by omega) va.1 va.2 vb.1 vb.2)
    have hrk := reach_ok op y z va vb
    obtain ⟨t, ht⟩ : ∃ t, t = reachE op y z := ⟨_, rfl⟩
    rw [← ht] at KR hrk
    have HD2 : Hid (s.next.reckon op dn an bn = if t < 0 then s.next.ended 1 0 else s.next.reg dn t) := by
      unfold Hid St.reckon
      show (if reachE op (s.regs an) (s.regs bn) < 0 then _ else s.next.reg dn (reachE op (s.regs an) (s.regs bn))) = _
      rw [← hy, ← hz, ← ht]
    have HY := hide hy
    have HZ := hide hz
    clear hy hz va vb ht HRD HRA HRB HRC HRJ HRI HRV
    rcases (show op = 2 ∨ op = 3 ∨ op = 4 ∨ op = 5 ∨ op = 6 by omega) with rfl | rfl | rfl | rfl | rfl
    · have HR := hide hrk
      clear hrk
      go_enter Tryd.func54, Tryd.ntmps54
      go_wp2_with fail
      obtain ⟨w2, hw2, HI2, HK2, q0, q1, q2, q3⟩ := pass_open 2 (dn : Int) (an : Int) (bn : Int) (unhide HI)
      unfold passW at hw2
      rw [← hw2]
      have m1 := (unhide HI2).rg
      have fg := (unhide HI2).fg
      have fm := (unhide HI2).fm
      have e4 := (unhide HI2).en
      have ca : w2.cell? ⟨G, an, none⟩ = some (.int .i64 y) := by rw [unhide HY]; exact (unhide HI2).regs an (by omega)
      have cb : w2.cell? ⟨G, bn, none⟩ = some (.int .i64 z) := by rw [unhide HZ]; exact (unhide HI2).regs bn (by omega)
      have cd2 := (unhide HI2).regs dn (by omega)
      clear hw2 c0 c4 c5 hf
      go_region_held3 (fun w' => w'.cell? ⟨w.heap.size, 0, none⟩ = some (.int .i64 2) ∧ w'.cell? ⟨w.heap.size, 2, none⟩ = some (.int .i64 (an : Int)) ∧ w'.cell? ⟨w.heap.size, 3, none⟩ = some (.int .i64 (bn : Int)) ∧ w'.cell? ⟨M, 1, none⟩ = some (.slice (some ⟨G, 0, none⟩) R R) ∧ w'.cell? ⟨G, an, none⟩ = some (.int .i64 y) ∧ w'.cell? ⟨G, bn, none⟩ = some (.int .i64 z)) (simp [*])
        ((go_at_call 87; refine (unhide KR _).mono ?_; rintro e w5 ⟨rfl, hw5⟩; rw [hw5]; clear hw5))
      rcases (show t = -1 ∨ 0 ≤ t by have := unhide HR; omega) with rfl | ht0
      · go_wp2_with fail
        go_returns
        rw [unhide HD, unhide HD2, if_pos (by decide)]
        have hP := ((unhide HI2).set_end 1).same (s' := s.next.ended 1 0) rfl rfl rfl rfl (unhide HVAL).symm
        first | exact ⟨rfl, hP.drew, (keep_m (unhide HK2) _ _).drew⟩ | exact ⟨rfl, hP.drew.drew, ((keep_m (unhide HK2) _ _).drew).drew⟩
      · go_wp2_with fail
        go_region_held3 (fun w' => w'.cell? ⟨w.heap.size, 1, none⟩ = some (.int .i64 (dn : Int)) ∧ w'.cell? ⟨M, 1, none⟩ = some (.slice (some ⟨G, 0, none⟩) R R)) (simp [*]) (fail)
        go_wp2_with fail
        go_returns
        rw [unhide HD, unhide HD2, if_neg (by omega)]
        first | exact ⟨rfl, (((unhide HI2).set_reg dn (by omega) t).drew).drew, ((keep_g (unhide HK2) _ _).drew).drew⟩ | exact ⟨rfl, ((unhide HI2).set_reg dn (by omega) t).drew, (keep_g (unhide HK2) _ _).drew⟩ | exact ⟨rfl, ((((unhide HI2).set_reg dn (by omega) t).drew).drew).drew, (((keep_g (unhide HK2) _ _).drew).drew).drew⟩
    · have HR := hide hrk
      clear hrk
      go_enter Tryd.func54, Tryd.ntmps54
      go_wp2_with fail
      obtain ⟨w2, hw2, HI2, HK2, q0, q1, q2, q3⟩ := pass_open 3 (dn : Int) (an : Int) (bn : Int) (unhide HI)
      unfold passW at hw2
      rw [← hw2]
      have m1 := (unhide HI2).rg
      have fg := (unhide HI2).fg
      have fm := (unhide HI2).fm
      have e4 := (unhide HI2).en
      have ca : w2.cell? ⟨G, an, none⟩ = some (.int .i64 y) := by rw [unhide HY]; exact (unhide HI2).regs an (by omega)
      have cb : w2.cell? ⟨G, bn, none⟩ = some (.int .i64 z) := by rw [unhide HZ]; exact (unhide HI2).regs bn (by omega)
      have cd2 := (unhide HI2).regs dn (by omega)
      clear hw2 c0 c4 c5 hf
      go_region_held3 (fun w' => w'.cell? ⟨w.heap.size, 0, none⟩ = some (.int .i64 3) ∧ w'.cell? ⟨w.heap.size, 2, none⟩ = some (.int .i64 (an : Int)) ∧ w'.cell? ⟨w.heap.size, 3, none⟩ = some (.int .i64 (bn : Int)) ∧ w'.cell? ⟨M, 1, none⟩ = some (.slice (some ⟨G, 0, none⟩) R R) ∧ w'.cell? ⟨G, an, none⟩ = some (.int .i64 y) ∧ w'.cell? ⟨G, bn, none⟩ = some (.int .i64 z)) (simp [*])
        ((go_at_call 87; refine (unhide KR _).mono ?_; rintro e w5 ⟨rfl, hw5⟩; rw [hw5]; clear hw5))
      rcases (show t = -1 ∨ 0 ≤ t by have := unhide HR; omega) with rfl | ht0
      · go_wp2_with fail
        go_returns
        rw [unhide HD, unhide HD2, if_pos (by decide)]
        have hP := ((unhide HI2).set_end 1).same (s' := s.next.ended 1 0) rfl rfl rfl rfl (unhide HVAL).symm
        first | exact ⟨rfl, hP.drew, (keep_m (unhide HK2) _ _).drew⟩ | exact ⟨rfl, hP.drew.drew, ((keep_m (unhide HK2) _ _).drew).drew⟩
      · go_wp2_with fail
        go_region_held3 (fun w' => w'.cell? ⟨w.heap.size, 1, none⟩ = some (.int .i64 (dn : Int)) ∧ w'.cell? ⟨M, 1, none⟩ = some (.slice (some ⟨G, 0, none⟩) R R)) (simp [*]) (fail)
        go_wp2_with fail
        go_returns
        rw [unhide HD, unhide HD2, if_neg (by omega)]
        first | exact ⟨rfl, (((unhide HI2).set_reg dn (by omega) t).drew).drew, ((keep_g (unhide HK2) _ _).drew).drew⟩ | exact ⟨rfl, ((unhide HI2).set_reg dn (by omega) t).drew, (keep_g (unhide HK2) _ _).drew⟩ | exact ⟨rfl, ((((unhide HI2).set_reg dn (by omega) t).drew).drew).drew, (((keep_g (unhide HK2) _ _).drew).drew).drew⟩
    · have HR := hide hrk
      clear hrk
      go_enter Tryd.func54, Tryd.ntmps54
      go_wp2_with fail
      obtain ⟨w2, hw2, HI2, HK2, q0, q1, q2, q3⟩ := pass_open 4 (dn : Int) (an : Int) (bn : Int) (unhide HI)
      unfold passW at hw2
      rw [← hw2]
      have m1 := (unhide HI2).rg
      have fg := (unhide HI2).fg
      have fm := (unhide HI2).fm
      have e4 := (unhide HI2).en
      have ca : w2.cell? ⟨G, an, none⟩ = some (.int .i64 y) := by rw [unhide HY]; exact (unhide HI2).regs an (by omega)
      have cb : w2.cell? ⟨G, bn, none⟩ = some (.int .i64 z) := by rw [unhide HZ]; exact (unhide HI2).regs bn (by omega)
      have cd2 := (unhide HI2).regs dn (by omega)
      clear hw2 c0 c4 c5 hf
      go_region_held3 (fun w' => w'.cell? ⟨w.heap.size, 0, none⟩ = some (.int .i64 4) ∧ w'.cell? ⟨w.heap.size, 2, none⟩ = some (.int .i64 (an : Int)) ∧ w'.cell? ⟨w.heap.size, 3, none⟩ = some (.int .i64 (bn : Int)) ∧ w'.cell? ⟨M, 1, none⟩ = some (.slice (some ⟨G, 0, none⟩) R R) ∧ w'.cell? ⟨G, an, none⟩ = some (.int .i64 y) ∧ w'.cell? ⟨G, bn, none⟩ = some (.int .i64 z)) (simp [*])
        ((go_at_call 87; refine (unhide KR _).mono ?_; rintro e w5 ⟨rfl, hw5⟩; rw [hw5]; clear hw5))
      rcases (show t = -1 ∨ 0 ≤ t by have := unhide HR; omega) with rfl | ht0
      · go_wp2_with fail
        go_returns
        rw [unhide HD, unhide HD2, if_pos (by decide)]
        have hP := ((unhide HI2).set_end 1).same (s' := s.next.ended 1 0) rfl rfl rfl rfl (unhide HVAL).symm
        first | exact ⟨rfl, hP.drew, (keep_m (unhide HK2) _ _).drew⟩ | exact ⟨rfl, hP.drew.drew, ((keep_m (unhide HK2) _ _).drew).drew⟩
      · go_wp2_with fail
        go_region_held3 (fun w' => w'.cell? ⟨w.heap.size, 1, none⟩ = some (.int .i64 (dn : Int)) ∧ w'.cell? ⟨M, 1, none⟩ = some (.slice (some ⟨G, 0, none⟩) R R)) (simp [*]) (fail)
        go_wp2_with fail
        go_returns
        rw [unhide HD, unhide HD2, if_neg (by omega)]
        first | exact ⟨rfl, (((unhide HI2).set_reg dn (by omega) t).drew).drew, ((keep_g (unhide HK2) _ _).drew).drew⟩ | exact ⟨rfl, ((unhide HI2).set_reg dn (by omega) t).drew, (keep_g (unhide HK2) _ _).drew⟩ | exact ⟨rfl, ((((unhide HI2).set_reg dn (by omega) t).drew).drew).drew, (((keep_g (unhide HK2) _ _).drew).drew).drew⟩
    · have HR := hide hrk
      clear hrk
      go_enter Tryd.func54, Tryd.ntmps54
      go_wp2_with fail
      obtain ⟨w2, hw2, HI2, HK2, q0, q1, q2, q3⟩ := pass_open 5 (dn : Int) (an : Int) (bn : Int) (unhide HI)
      unfold passW at hw2
      rw [← hw2]
      have m1 := (unhide HI2).rg
      have fg := (unhide HI2).fg
      have fm := (unhide HI2).fm
      have e4 := (unhide HI2).en
      have ca : w2.cell? ⟨G, an, none⟩ = some (.int .i64 y) := by rw [unhide HY]; exact (unhide HI2).regs an (by omega)
      have cb : w2.cell? ⟨G, bn, none⟩ = some (.int .i64 z) := by rw [unhide HZ]; exact (unhide HI2).regs bn (by omega)
      have cd2 := (unhide HI2).regs dn (by omega)
      clear hw2 c0 c4 c5 hf
      go_region_held3 (fun w' => w'.cell? ⟨w.heap.size, 0, none⟩ = some (.int .i64 5) ∧ w'.cell? ⟨w.heap.size, 2, none⟩ = some (.int .i64 (an : Int)) ∧ w'.cell? ⟨w.heap.size, 3, none⟩ = some (.int .i64 (bn : Int)) ∧ w'.cell? ⟨M, 1, none⟩ = some (.slice (some ⟨G, 0, none⟩) R R) ∧ w'.cell? ⟨G, an, none⟩ = some (.int .i64 y) ∧ w'.cell? ⟨G, bn, none⟩ = some (.int .i64 z)) (simp [*])
        ((go_at_call 87; refine (unhide KR _).mono ?_; rintro e w5 ⟨rfl, hw5⟩; rw [hw5]; clear hw5))
      rcases (show t = -1 ∨ 0 ≤ t by have := unhide HR; omega) with rfl | ht0
      · go_wp2_with fail
        go_returns
        rw [unhide HD, unhide HD2, if_pos (by decide)]
        have hP := ((unhide HI2).set_end 1).same (s' := s.next.ended 1 0) rfl rfl rfl rfl (unhide HVAL).symm
        first | exact ⟨rfl, hP.drew, (keep_m (unhide HK2) _ _).drew⟩ | exact ⟨rfl, hP.drew.drew, ((keep_m (unhide HK2) _ _).drew).drew⟩
      · go_wp2_with fail
        go_region_held3 (fun w' => w'.cell? ⟨w.heap.size, 1, none⟩ = some (.int .i64 (dn : Int)) ∧ w'.cell? ⟨M, 1, none⟩ = some (.slice (some ⟨G, 0, none⟩) R R)) (simp [*]) (fail)
        go_wp2_with fail
        go_returns
        rw [unhide HD, unhide HD2, if_neg (by omega)]
        first | exact ⟨rfl, (((unhide HI2).set_reg dn (by omega) t).drew).drew, ((keep_g (unhide HK2) _ _).drew).drew⟩ | exact ⟨rfl, ((unhide HI2).set_reg dn (by omega) t).drew, (keep_g (unhide HK2) _ _).drew⟩ | exact ⟨rfl, ((((unhide HI2).set_reg dn (by omega) t).drew).drew).drew, (((keep_g (unhide HK2) _ _).drew).drew).drew⟩
    · have HR := hide hrk
      clear hrk
      go_enter Tryd.func54, Tryd.ntmps54
      go_wp2_with fail
      obtain ⟨w2, hw2, HI2, HK2, q0, q1, q2, q3⟩ := pass_open 6 (dn : Int) (an : Int) (bn : Int) (unhide HI)
      unfold passW at hw2
      rw [← hw2]
      have m1 := (unhide HI2).rg
      have fg := (unhide HI2).fg
      have fm := (unhide HI2).fm
      have e4 := (unhide HI2).en
      have ca : w2.cell? ⟨G, an, none⟩ = some (.int .i64 y) := by rw [unhide HY]; exact (unhide HI2).regs an (by omega)
      have cb : w2.cell? ⟨G, bn, none⟩ = some (.int .i64 z) := by rw [unhide HZ]; exact (unhide HI2).regs bn (by omega)
      have cd2 := (unhide HI2).regs dn (by omega)
      clear hw2 c0 c4 c5 hf
      go_region_held3 (fun w' => w'.cell? ⟨w.heap.size, 0, none⟩ = some (.int .i64 6) ∧ w'.cell? ⟨w.heap.size, 2, none⟩ = some (.int .i64 (an : Int)) ∧ w'.cell? ⟨w.heap.size, 3, none⟩ = some (.int .i64 (bn : Int)) ∧ w'.cell? ⟨M, 1, none⟩ = some (.slice (some ⟨G, 0, none⟩) R R) ∧ w'.cell? ⟨G, an, none⟩ = some (.int .i64 y) ∧ w'.cell? ⟨G, bn, none⟩ = some (.int .i64 z)) (simp [*])
        ((go_at_call 87; refine (unhide KR _).mono ?_; rintro e w5 ⟨rfl, hw5⟩; rw [hw5]; clear hw5))
      rcases (show t = -1 ∨ 0 ≤ t by have := unhide HR; omega) with rfl | ht0
      · go_wp2_with fail
        go_returns
        rw [unhide HD, unhide HD2, if_pos (by decide)]
        have hP := ((unhide HI2).set_end 1).same (s' := s.next.ended 1 0) rfl rfl rfl rfl (unhide HVAL).symm
        first | exact ⟨rfl, hP.drew, (keep_m (unhide HK2) _ _).drew⟩ | exact ⟨rfl, hP.drew.drew, ((keep_m (unhide HK2) _ _).drew).drew⟩
      · go_wp2_with fail
        go_region_held3 (fun w' => w'.cell? ⟨w.heap.size, 1, none⟩ = some (.int .i64 (dn : Int)) ∧ w'.cell? ⟨M, 1, none⟩ = some (.slice (some ⟨G, 0, none⟩) R R)) (simp [*]) (fail)
        go_wp2_with fail
        go_returns
        rw [unhide HD, unhide HD2, if_neg (by omega)]
        first | exact ⟨rfl, (((unhide HI2).set_reg dn (by omega) t).drew).drew, ((keep_g (unhide HK2) _ _).drew).drew⟩ | exact ⟨rfl, ((unhide HI2).set_reg dn (by omega) t).drew, (keep_g (unhide HK2) _ _).drew⟩ | exact ⟨rfl, ((((unhide HI2).set_reg dn (by omega) t).drew).drew).drew, (((keep_g (unhide HK2) _ _).drew).drew).drew⟩
  · obtain ⟨a0, a1⟩ := unhide HRJ rfl
    obtain ⟨an, rfl⟩ : ∃ an : Nat, a = an := ⟨a.toNat, by omega⟩
    go_enter Tryd.func54, Tryd.ntmps54
    go_wp2_with fail
    go_returns
    have h1 := ((unhide HI).set_at (s.at_ + 1) (z := (s.at_ : Int) + 1) (by omega)).set_at an rfl
    have hsz : ((w.setCell ⟨M, 0, none⟩ (.int .i64 ((s.at_ : Int) + 1))).setCell ⟨M, 0, none⟩ (.int .i64 (an : Int))).heap.size = w.heap.size := by simp
    refine ⟨rfl, (h1.of_block (Below.heap_alloc _ _ _ (by rw [hsz]; exact hM)) (Below.heap_alloc _ _ _ (by rw [hsz]; exact hG)) (Below.heap_alloc _ _ _ (by rw [hsz]; exact hH)) (by simp)).same rfl rfl rfl rfl rfl, (keep_m (keep_m (Keep.refl _ _) _ _) _ _).alloc _⟩
  · obtain ⟨a0, a1⟩ := unhide HRA (.inr (.inr (.inl rfl)))
    obtain ⟨b0, b1⟩ := unhide HRI rfl
    obtain ⟨an, rfl⟩ : ∃ an : Nat, a = an := ⟨a.toNat, by omega⟩
    obtain ⟨bn, rfl⟩ : ∃ bn : Nat, b = bn := ⟨b.toNat, by omega⟩
    go_enter Tryd.func54, Tryd.ntmps54
    go_wp2_with fail
    obtain ⟨w2, hw2, HI2, HK2, q0, q1, q2, q3⟩ := pass_open 8 d (an : Int) (bn : Int) (unhide HI)
    unfold passW at hw2
    rw [← hw2]
    have m1 := (unhide HI2).rg
    have fg := (unhide HI2).fg
    have fh := (unhide HI2).fh
    have fm := (unhide HI2).fm
    have e4 := (unhide HI2).en
    have e0 := (unhide HI2).at_
    clear hw2 c0 c4 c5 hf
    obtain ⟨y, hy⟩ : ∃ y, y = s.regs an := ⟨_, rfl⟩
    have ca : w2.cell? ⟨G, an, none⟩ = some (.int .i64 y) := by rw [hy]; exact (unhide HI2).regs an (by omega)
    have HY := hide hy
    clear hy
    have hy0 := unhide HV an
    rw [← unhide HY] at hy0
    go_region_held3 (fun w' => w'.cell? ⟨w.heap.size, 2, none⟩ = some (.int .i64 (an : Int)) ∧ w'.cell? ⟨M, 1, none⟩ = some (.slice (some ⟨G, 0, none⟩) R R) ∧ w'.cell? ⟨G, an, none⟩ = some (.int .i64 y)) (simp [*]) (fail)
    by_cases hyz : y = 0
    · subst hyz
      have he := hide (show stepSt ⟨8, d, (an : Int), (bn : Int)⟩ s = s.next by show (if s.regs an = 0 then _ else _) = _; rw [if_pos (unhide HY).symm]; rfl)
      go_wp2_with fail
      go_returns
      rw [unhide he]
      exact ⟨rfl, (unhide HI2).drew, (unhide HK2).drew⟩
    · have he := hide (show stepSt ⟨8, d, (an : Int), (bn : Int)⟩ s = s.next.goto bn by show (if s.regs an = 0 then _ else _) = _; rw [if_neg (fun h => hyz ((unhide HY).trans h))]; rfl)
      have hy1 : 0 < y := by omega
      go_wp2_with fail
      go_returns
      rw [unhide he]
      exact ⟨rfl, ((unhide HI2).set_at bn rfl).drew, (keep_m (unhide HK2) _ _).drew⟩
  · go_enter Tryd.func54, Tryd.ntmps54
    go_wp2_with fail
    go_returns
    obtain ⟨w2, hw2, HI2, HK2, q0, q1, q2, q3⟩ := pass_open 9 d a b (unhide HI)
    unfold passW at hw2
    rw [← hw2]
    exact ⟨rfl, (unhide HI2).same rfl rfl rfl rfl rfl, unhide HK2⟩
  · obtain ⟨a0, a1⟩ := unhide HRA (.inr (.inr (.inr (.inr (.inl rfl)))))
    obtain ⟨an, rfl⟩ : ∃ an : Nat, a = an := ⟨a.toNat, by omega⟩
    obtain ⟨w3, hw3⟩ : ∃ w3, w3 = ((w.setCell ⟨M, 0, none⟩ (.int .i64 ((s.at_ : Int) + 1))).setCell ⟨M, 4, none⟩ (.int .i64 0)).alloc (.cells #[.int .i64 10, .int .i64 d, .int .i64 (an : Int), .int .i64 b] 77) := ⟨_, rfl⟩
    have hsz : ((w.setCell ⟨M, 0, none⟩ (.int .i64 ((s.at_ : Int) + 1))).setCell ⟨M, 4, none⟩ (.int .i64 0)).heap.size = w.heap.size := by simp
    have h1 := ((unhide HI).set_at (s.at_ + 1) (z := (s.at_ : Int) + 1) (by omega)).set_end 0
    have HI3 : Hid (MomB w3 M G H R V ((s.goto (s.at_ + 1)).ended 0 s.val)) := by
      rw [hw3]
      exact h1.of_block (Below.heap_alloc _ _ _ (by rw [hsz]; exact hM)) (Below.heap_alloc _ _ _ (by rw [hsz]; exact hG)) (Below.heap_alloc _ _ _ (by rw [hsz]; exact hH)) (by simp)
    have HK3 : Hid (Keep (Mine M G H) w w3) := by rw [hw3]; exact (keep_m (keep_m (Keep.refl _ _) _ _) _ _).alloc _
    have q2 : w3.cell? ⟨w.heap.size, 2, none⟩ = some (.int .i64 (an : Int)) := by rw [hw3, World.cell?_alloc_at (hn := hsz.symm)]; rfl
    have m1 := (unhide HI3).rg
    have fm := (unhide HI3).fm
    have m5 : w3.cell? ⟨M, 5, none⟩ = some (.int .i64 s.val) := (unhide HI3).vl
    obtain ⟨y, hy⟩ : ∃ y, y = s.regs an := ⟨_, rfl⟩
    have ca : w3.cell? ⟨G, an, none⟩ = some (.int .i64 y) := by rw [hy]; exact (unhide HI3).regs an (by omega)
    have HY := hide hy
    have HW := hide hw3
    have hk5 : ∀ (wq : World) (z : Value), (wq.setCell ⟨M, 5, none⟩ z).cell? ⟨M, 1, none⟩ = wq.cell? ⟨M, 1, none⟩ := fun wq z => World.cell?_setCell_other _ _ _ _ (fun e => by injection e with e1 e2; omega)
    clear hy hw3 h1 hsz
    go_enter Tryd.func54, Tryd.ntmps54
    go_wp2_with fail
    rw [← unhide HW]
    clear c0 c4 c5 hf
    go_region_held3 (fun w' => w'.cell? ⟨w.heap.size, 2, none⟩ = some (.int .i64 (an : Int)) ∧ w'.cell? ⟨M, 1, none⟩ = some (.slice (some ⟨G, 0, none⟩) R R) ∧ w'.cell? ⟨G, an, none⟩ = some (.int .i64 y)) (simp [*]) (fail)
    go_wp2_with fail
    go_returns
    have hP := (((unhide HI3).set_val y).drew).same (s' := stepSt ⟨10, d, (an : Int), b⟩ s) rfl rfl rfl rfl (by show s.regs an = y; rw [unhide HY])
    exact ⟨rfl, hP, (keep_m (unhide HK3) _ _).drew⟩
  · go_enter Tryd.func54, Tryd.ntmps54
    go_wp2_with fail
    go_returns
    obtain ⟨w2, hw2, HI2, HK2, q0, q1, q2, q3⟩ := pass_open 11 d a b (unhide HI)
    unfold passW at hw2
    rw [← hw2]
    exact ⟨rfl, (unhide HI2).same rfl rfl rfl rfl rfl, unhide HK2⟩
  · obtain ⟨d0, d1⟩ := unhide HRV (by decide)
    obtain ⟨a0, a1⟩ := unhide HRA (.inr (.inr (.inr (.inr (.inr rfl)))))
    obtain ⟨dn, rfl⟩ : ∃ dn : Nat, d = dn := ⟨d.toNat, by omega⟩
    obtain ⟨an, rfl⟩ : ∃ an : Nat, a = an := ⟨a.toNat, by omega⟩
    go_enter Tryd.func54, Tryd.ntmps54
    go_wp2_with fail
    obtain ⟨w2, hw2, HI2, HK2, q0, q1, q2, q3⟩ := pass_open 12 (dn : Int) (an : Int) b (unhide HI)
    unfold passW at hw2
    rw [← hw2]
    have m1 := (unhide HI2).rg
    have m3 : w2.cell? ⟨M, 3, none⟩ = some (.slice (some ⟨H, 0, none⟩) V V) := by have h := (unhide HI2).vr; rw [show s.next.env.vc = 3 from (by have := unhide HPU; show s.env.vc = 3; omega)] at h; exact h
    have fg := (unhide HI2).fg
    have fh := (unhide HI2).fh
    have fm := (unhide HI2).fm
    have e4 := (unhide HI2).en
    have e0 := (unhide HI2).at_
    clear hw2 c0 c4 c5 hf
    obtain ⟨y, hy⟩ : ∃ y, y = s.regs an := ⟨_, rfl⟩
    have ca : w2.cell? ⟨G, an, none⟩ = some (.int .i64 y) := by rw [hy]; exact (unhide HI2).regs an (by omega)
    have HY := hide hy
    clear hy
    have cd2 := (unhide HI2).vars dn (by omega)
    go_region_held3 (fun w' => w'.cell? ⟨w.heap.size, 1, none⟩ = some (.int .i64 (dn : Int)) ∧ w'.cell? ⟨w.heap.size, 2, none⟩ = some (.int .i64 (an : Int)) ∧ w'.cell? ⟨M, 3, none⟩ = some (.slice (some ⟨H, 0, none⟩) V V) ∧ w'.cell? ⟨M, 1, none⟩ = some (.slice (some ⟨G, 0, none⟩) R R) ∧ w'.cell? ⟨G, an, none⟩ = some (.int .i64 y)) (simp [*]) (fail)
    go_wp2_with fail
    go_returns
    have hP := (((unhide HI2).set_var dn (by omega) y).drew).same (s' := stepSt ⟨12, (dn : Int), (an : Int), b⟩ s) rfl rfl (by show upd s.vars dn (s.regs an) = upd s.vars dn y; rw [unhide HY]) rfl rfl
    exact ⟨rfl, hP, (keep_h (unhide HK2) _ _).drew⟩
  · obtain ⟨d0, d1⟩ := unhide HRV (by decide)
    obtain ⟨dn, rfl⟩ : ∃ dn : Nat, d = dn := ⟨d.toNat, by omega⟩
    go_enter Tryd.func54, Tryd.ntmps54
    go_wp2_with fail
    obtain ⟨w2, hw2, HI2, HK2, q0, q1, q2, q3⟩ := pass_open 13 (dn : Int) a b (unhide HI)
    unfold passW at hw2
    rw [← hw2]
    have m1 := (unhide HI2).rg
    have m3 : w2.cell? ⟨M, 3, none⟩ = some (.slice (some ⟨H, 0, none⟩) V V) := by have h := (unhide HI2).vr; rw [show s.next.env.vc = 3 from (by have := unhide HPU; show s.env.vc = 3; omega)] at h; exact h
    have fg := (unhide HI2).fg
    have fh := (unhide HI2).fh
    have fm := (unhide HI2).fm
    have e4 := (unhide HI2).en
    have e0 := (unhide HI2).at_
    clear hw2 c0 c4 c5 hf
    have cd2 := (unhide HI2).vars dn (by omega)
    go_region_held3 (fun w' => w'.cell? ⟨w.heap.size, 1, none⟩ = some (.int .i64 (dn : Int)) ∧ w'.cell? ⟨w.heap.size, 2, none⟩ = some (.int .i64 a) ∧ w'.cell? ⟨M, 3, none⟩ = some (.slice (some ⟨H, 0, none⟩) V V)) (simp [*]) (fail)
    go_wp2_with fail
    go_returns
    exact ⟨rfl, (((unhide HI2).set_var dn (by omega) a).drew).same rfl rfl rfl rfl rfl, (keep_h (unhide HK2) _ _).drew⟩
  · obtain ⟨d0, d1⟩ := unhide HRV (by decide)
    obtain ⟨dn, rfl⟩ : ∃ dn : Nat, d = dn := ⟨d.toNat, by omega⟩
    go_enter Tryd.func54, Tryd.ntmps54
    go_wp2_with fail
    obtain ⟨w2, hw2, HI2, HK2, q0, q1, q2, q3⟩ := pass_open 14 (dn : Int) a b (unhide HI)
    unfold passW at hw2
    rw [← hw2]
    have m1 := (unhide HI2).rg
    have m3 : w2.cell? ⟨M, 3, none⟩ = some (.slice (some ⟨H, 0, none⟩) V V) := by have h := (unhide HI2).vr; rw [show s.next.env.vc = 3 from (by have := unhide HPU; show s.env.vc = 3; omega)] at h; exact h
    have fg := (unhide HI2).fg
    have fh := (unhide HI2).fh
    have fm := (unhide HI2).fm
    have e4 := (unhide HI2).en
    have e0 := (unhide HI2).at_
    clear hw2 c0 c4 c5 hf
    have cd2 := (unhide HI2).vars dn (by omega)
    go_region_held3 (fun w' => w'.cell? ⟨w.heap.size, 1, none⟩ = some (.int .i64 (dn : Int)) ∧ w'.cell? ⟨M, 3, none⟩ = some (.slice (some ⟨H, 0, none⟩) V V)) (simp [*]) (fail)
    go_wp2_with fail
    go_returns
    exact ⟨rfl, (((unhide HI2).set_var dn (by omega) (-1)).drew).same rfl rfl rfl rfl rfl, (keep_h (unhide HK2) _ _).drew⟩
  · obtain ⟨⟨d0, d1⟩, a0, a1⟩ := unhide HRL rfl
    obtain ⟨dn, rfl⟩ : ∃ dn : Nat, d = dn := ⟨d.toNat, by omega⟩
    obtain ⟨an, rfl⟩ : ∃ an : Nat, a = an := ⟨a.toNat, by omega⟩
    go_enter Tryd.func54, Tryd.ntmps54
    go_wp2_with fail
    obtain ⟨w2, hw2, HI2, HK2, q0, q1, q2, q3⟩ := pass_open 15 (dn : Int) (an : Int) b (unhide HI)
    unfold passW at hw2
    rw [← hw2]
    have m1 := (unhide HI2).rg
    have m2 : w2.cell? ⟨M, 2, none⟩ = some (.slice (some ⟨H, 0, none⟩) V V) := by have h := (unhide HI2).vr; rw [show s.next.env.vc = 2 from (by have := unhide HPU; show s.env.vc = 2; omega)] at h; exact h
    have fg := (unhide HI2).fg
    have fh := (unhide HI2).fh
    have fm := (unhide HI2).fm
    have e4 := (unhide HI2).en
    have e0 := (unhide HI2).at_
    clear hw2 c0 c4 c5 hf
    obtain ⟨y, hy⟩ : ∃ y, y = s.vars an := ⟨_, rfl⟩
    have ca : w2.cell? ⟨H, an, none⟩ = some (.int .i64 y) := by rw [hy]; exact (unhide HI2).vars an (by omega)
    have HY := hide hy
    clear hy
    have cd2 := (unhide HI2).regs dn (by omega)
    go_region_held3 (fun w' => w'.cell? ⟨w.heap.size, 1, none⟩ = some (.int .i64 (dn : Int)) ∧ w'.cell? ⟨w.heap.size, 2, none⟩ = some (.int .i64 (an : Int)) ∧ w'.cell? ⟨M, 2, none⟩ = some (.slice (some ⟨H, 0, none⟩) V V) ∧ w'.cell? ⟨M, 1, none⟩ = some (.slice (some ⟨G, 0, none⟩) R R) ∧ w'.cell? ⟨H, an, none⟩ = some (.int .i64 y)) (simp [*]) (fail)
    go_wp2_with fail
    go_returns
    have hP := (((unhide HI2).set_reg dn (by omega) y).drew).same (s' := stepSt ⟨15, (dn : Int), (an : Int), b⟩ s) rfl (by show upd s.regs dn (s.vars an) = upd s.regs dn y; rw [unhide HY]) rfl rfl rfl
    exact ⟨rfl, hP, (keep_g (unhide HK2) _ _).drew⟩
  · obtain ⟨⟨d0, d1⟩, a0, a1⟩ := unhide HRT rfl
    obtain ⟨dn, rfl⟩ : ∃ dn : Nat, d = dn := ⟨d.toNat, by omega⟩
    obtain ⟨an, rfl⟩ : ∃ an : Nat, a = an := ⟨a.toNat, by omega⟩
    go_enter Tryd.func54, Tryd.ntmps54
    go_wp2_with fail
    obtain ⟨w2, hw2, HI2, HK2, q0, q1, q2, q3⟩ := pass_open 16 (dn : Int) (an : Int) b (unhide HI)
    unfold passW at hw2
    rw [← hw2]
    have m1 := (unhide HI2).rg
    have m2 : w2.cell? ⟨M, 2, none⟩ = some (.slice (some ⟨H, 0, none⟩) V V) := by have h := (unhide HI2).vr; rw [show s.next.env.vc = 2 from (by have := unhide HPU; show s.env.vc = 2; omega)] at h; exact h
    have fg := (unhide HI2).fg
    have fh := (unhide HI2).fh
    have fm := (unhide HI2).fm
    have e4 := (unhide HI2).en
    have e0 := (unhide HI2).at_
    clear hw2 c0 c4 c5 hf
    obtain ⟨y, hy⟩ : ∃ y, y = s.regs an := ⟨_, rfl⟩
    have ca : w2.cell? ⟨G, an, none⟩ = some (.int .i64 y) := by rw [hy]; exact (unhide HI2).regs an (by omega)
    have HY := hide hy
    clear hy
    have cd2 := (unhide HI2).vars dn (by omega)
    go_region_held3 (fun w' => w'.cell? ⟨w.heap.size, 1, none⟩ = some (.int .i64 (dn : Int)) ∧ w'.cell? ⟨w.heap.size, 2, none⟩ = some (.int .i64 (an : Int)) ∧ w'.cell? ⟨M, 2, none⟩ = some (.slice (some ⟨H, 0, none⟩) V V) ∧ w'.cell? ⟨M, 1, none⟩ = some (.slice (some ⟨G, 0, none⟩) R R) ∧ w'.cell? ⟨G, an, none⟩ = some (.int .i64 y)) (simp [*]) (fail)
    go_wp2_with fail
    go_returns
    have hP := (((unhide HI2).set_var dn (by omega) y).drew).same (s' := stepSt ⟨16, (dn : Int), (an : Int), b⟩ s) rfl rfl (by show upd s.vars dn (s.regs an) = upd s.vars dn y; rw [unhide HY]) rfl rfl
    exact ⟨rfl, hP, (keep_h (unhide HK2) _ _).drew⟩
end Go.Proofs.YtoepcplbpochpaaDoor
