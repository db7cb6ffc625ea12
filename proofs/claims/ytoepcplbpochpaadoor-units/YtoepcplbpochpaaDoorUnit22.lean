/-
  One step of the program's own unit's run: (*mach.run).step.
-/
import Derived.Test.YtoepcplbpochpaaDoorUnit21
import Derived.Test.YtoepcplbpochpaaDoorUnit18

namespace Go.Proofs.YtoepcplbpochpaaDoor
open Go.RowKit

set_option maxRecDepth 100000 in
set_option maxHeartbeats 8000000 in
theorem machStep_any (B : Nat) (s : St) (vo vs : Value) (x : In4) (K n S : Int) (R : List Rg) (ao : Option Addr) (cap : Nat) (w : World) (h : Inv w B s vo vs) (hx : Right K n S x) (hp : x.op ≤ 11 ∨ 15 ≤ x.op) (hE : s.env = unitEnv R (some (.slice ao R.length cap))) (hH : Held w ao R) (hF : ∀ i, i < R.length → RgFit (rg R i)) (ht : isTab R = true) (hK : K ≤ 16) (hS : S ≤ 16)
    (hv : ∀ i, 0 ≤ s.regs i ∧ s.regs i ≤ 65535) (hu : ∀ i, 0 ≤ s.vars i ∧ s.vars i ≤ 65535) (hat : s.at_ ≤ 1000) (hst : s.steps ≤ 100000) (hol : s.outs.length ≤ 100000) (hsl : s.stops.length ≤ 100000) :
    Calls Tryd.prog 59 #[.pointer (some ⟨B, 0, none⟩), .agg #[.int .i64 x.op, .int .i64 x.d, .int .i64 x.a, .int .i64 x.b]] w (StepPost w B (stepSt x s)) := by
  have hB := h.1.lt
  have hlen : R.length ≤ 1000 := by have := isTab_len ht; omega
  have KD := hide (fun (s' : St) (vo' vs' : Value) (w' : World) (h' : Inv w' B s' vo' vs') (hr : ∀ i, 0 ≤ s'.regs i ∧ s'.regs i ≤ 65535) (ha : s'.at_ = s.at_) (hst' : s'.steps = s.steps) (ho : s'.outs = s.outs) => do_any B s' vo' vs' x K n S w' h' hx hK (fun i _ => hr i) (by rw [ha]; exact hat) (by rw [hst']; exact hst) (by rw [ho]; exact hol))
  have KA := hide (fun (w' : World) (h' : Inv w' B s vo vs) (hH' : Held w' ao R) => ask_any B s vo vs R ao cap s.at_ w' h'.1 hE hH' hF hlen)
  have HTL : Hid (∀ v, s.tell v = toldTo R s.regs s.vars s.at_ v R.length) := fun v => by unfold St.tell; rw [hE, told_eq ht]; rfl
  obtain ⟨w2, hw2, HI2, HK2, q0, q1, q2, q3, hz2, hf2⟩ := step_open x.op x.d x.a x.b h
  have HW := hide hw2
  have hB2 : B < w2.heap.size := (unhide HI2).1.lt
  have HBel : Hid (Below B w w2) := (unhide HK2).below (Nat.le_of_lt hB) (fun k hk e => by omega)
  have HI := hide h
  have HX := hide hx
  have HH2 : Hid (Held w2 ao R) := by rw [hw2]; exact hH.below ((Below.refl _ _).alloc (Nat.le_refl _) _)
  have hne : w.heap.size ≠ B := by omega
  have hk : ∀ (wq : World) (j o : Nat) (z : Value), (wq.setCell ⟨B, j, none⟩ z).cell? ⟨w.heap.size, o, none⟩ = wq.cell? ⟨w.heap.size, o, none⟩ := fun wq j o z => World.cell?_setCell_other _ _ _ _ (fun e => by injection e with e1; omega)
  have HV := hide hv
  have HU := hide hu
  have hnv : s.env.nv = 16 := by rw [hE]; rfl
  clear h hx hw2 hv hu hH hF hE ht
  have o0 : 0 ≤ x.op := (unhide HX).1
  have o1 : x.op ≤ 16 := (unhide HX).2.1
  have HN : Hid (some w.heap.size ≠ vo.ownBlock) := fun e => by have := (own_in (unhide HI).2.1 _ e.symm).2; omega
  obtain ⟨op, d, a, b⟩ := x
  simp only at *
  rcases (show op ≤ 10 ∨ op = 11 ∨ op = 15 ∨ op = 16 by omega) with ho | rfl | rfl | rfl
  · have HP0 := hide (pre_eq ⟨op, d, a, b⟩ s ho)
    have HBl := HBel
    have h11 : (op == 11) = false := by rw [beq_eq_false_iff_ne]; omega
    have h15 : (op == 15) = false := by rw [beq_eq_false_iff_ne]; omega
    have h16 : (op == 16) = false := by rw [beq_eq_false_iff_ne]; omega
    clear KA
    go_enter Tryd.func59, Tryd.ntmps59
    go_wp2_with fail
    rw [← unhide HW]
    go_wp2_with fail
    go_region_held3 (fun w' => w'.cell? ⟨w.heap.size, 0, none⟩ = some (.int .i64 op) ∧ w'.cell? ⟨w.heap.size, 1, none⟩ = some (.int .i64 d) ∧ w'.cell? ⟨w.heap.size, 2, none⟩ = some (.int .i64 a) ∧ w'.cell? ⟨w.heap.size, 3, none⟩ = some (.int .i64 b)) (first | (simp [*]; done) | assumption)
      ((go_at_call 86; refine (unhide KD s vo vs _ ?_ (unhide HV) rfl rfl rfl).mono ?_; exact (unhide HI2).drew; intro e w5 hD; have hbl := hD.2.2.block w.heap.size hz2 (fun h => h.elim hne (unhide HN)); have r0 := (World.cell?_of_block hbl).trans q0; have r1 := (World.cell?_of_block hbl).trans q1; have r2 := (World.cell?_of_block hbl).trans q2; have r3 := (World.cell?_of_block hbl).trans q3; have HP := hide (StepPost.of hD (unhide HI2).drew (unhide HBl).drew); obtain ⟨rfl, _, _⟩ := hD; clear hbl))
    go_wp2_with fail
    go_returns
    have hP := unhide HP
    unfold stepSt
    rw [unhide HP0]
    exact hP
  -- Stop
  · obtain ⟨v0, e0⟩ : ∃ v, s.tell 0 = v := ⟨_, rfl⟩
    obtain ⟨v1, e1⟩ : ∃ v, s.tell 1 = v := ⟨_, rfl⟩
    obtain ⟨v2, e2⟩ : ∃ v, s.tell 2 = v := ⟨_, rfl⟩
    obtain ⟨v3, e3⟩ : ∃ v, s.tell 3 = v := ⟨_, rfl⟩
    have KS := hide (fun w' (h : Inv w' B s vo vs) => see_any B s vo vs a v0 v1 v2 v3 w' h e0 e1 e2 e3 hsl)
    have KA' := hide (fun (w' : World) (h' : Inv w' B s vo vs) (hH' : Held w' ao R) => unhide KA w' h' hH')
    rw [← unhide HTL 0, ← unhide HTL 1, ← unhide HTL 2, ← unhide HTL 3, e0, e1, e2, e3] at KA'
    have c16 : w.cell? ⟨B, 16, none⟩ = some (.int .i64 (s.at_ : Int)) := (unhide HI).1.2.2.1
    have HNs : Hid (some w.heap.size ≠ vs.ownBlock) := fun e => by have := (own_in (unhide HI).2.2 _ e.symm).2; omega
    have HNb : Hid (∀ k, k < B → ¬ (k = B ∨ some k = vs.ownBlock)) := fun k hk e => e.elim (fun e => by omega) (fun e => by have := (own_in (unhide HI2).2.2 k e.symm).1; omega)
    have HNt : Hid (∀ g, w2.heap.size ≤ g → ¬ (g = B ∨ some g = vs.ownBlock)) := fun g hg e => e.elim (fun e => by omega) (fun e => by have := (own_in (unhide HI2).2.2 g e.symm).2; omega)
    clear e0 e1 e2 e3 KA HTL
    go_enter Tryd.func59, Tryd.ntmps59
    go_wp2_with fail
    rw [← unhide HW]
    refine (unhide KA' w2 (unhide HI2) (unhide HH2)).mono ?_
    rintro e w3 ⟨rfl, hb3⟩
    have HI3 : Hid (Inv w3 B s vo vs) := (unhide HI2).keep (Keep.of_below hb3 (fun _ => False))
    have HB3 : Hid (Below B w w3) := (unhide HBel).trans (hb3.mono (Nat.le_of_lt hB2))
    have t0 := (hb3.cell (p := ⟨w.heap.size, 0, none⟩) hz2).trans q0
    have t1 := (hb3.cell (p := ⟨w.heap.size, 1, none⟩) hz2).trans q1
    have t2 := (hb3.cell (p := ⟨w.heap.size, 2, none⟩) hz2).trans q2
    have t3 := (hb3.cell (p := ⟨w.heap.size, 3, none⟩) hz2).trans q3
    have hs3 := hb3.size
    clear hb3 q0 q1 q2 q3 c16 KA'
    go_wp2_with fail
    obtain ⟨w4, hw4⟩ : ∃ w4, w4 = w3.alloc (.cells #[.int .i64 v0, .int .i64 v1, .int .i64 v2, .int .i64 v3] 61) := ⟨_, rfl⟩
    rw [← hw4]
    have hb4 : Below w3.heap.size w3 w4 := by rw [hw4]; exact (Below.refl _ _).alloc (Nat.le_refl _) _
    have y : ∀ i, w4.cell? ⟨w3.heap.size, i, none⟩ = #[Value.int .i64 v0, .int .i64 v1, .int .i64 v2, .int .i64 v3][i]? := fun i => by rw [hw4]; exact World.cell?_alloc_at (hn := rfl) ..
    have y0 : w4.cell? ⟨w3.heap.size, 0, none⟩ = some (.int .i64 v0) := (y 0).trans rfl
    have y1 : w4.cell? ⟨w3.heap.size, 1, none⟩ = some (.int .i64 v1) := (y 1).trans rfl
    have y2 : w4.cell? ⟨w3.heap.size, 2, none⟩ = some (.int .i64 v2) := (y 2).trans rfl
    have y3 : w4.cell? ⟨w3.heap.size, 3, none⟩ = some (.int .i64 v3) := (y 3).trans rfl
    have HI4 : Hid (Inv w4 B s vo vs) := (unhide HI3).keep (Keep.of_below hb4 (fun _ => False))
    have HB4 : Hid (Below B w w4) := (unhide HB3).trans (hb4.mono (by omega))
    have u0 := (hb4.cell (p := ⟨w.heap.size, 0, none⟩) (show w.heap.size < w3.heap.size by omega)).trans t0
    have u1 := (hb4.cell (p := ⟨w.heap.size, 1, none⟩) (show w.heap.size < w3.heap.size by omega)).trans t1
    have u2 := (hb4.cell (p := ⟨w.heap.size, 2, none⟩) (show w.heap.size < w3.heap.size by omega)).trans t2
    have u3 := (hb4.cell (p := ⟨w.heap.size, 3, none⟩) (show w.heap.size < w3.heap.size by omega)).trans t3
    have hz4 : w3.heap.size < w4.heap.size := by rw [hw4]; simp
    have hX4 : w.heap.size < w4.heap.size := by omega
    have hB4 : B ≤ w4.heap.size := by omega
    clear hw4 hb4 y t0 t1 t2 t3 HI3 HB3
    go_region_held3 (fun w' => w'.cell? ⟨w.heap.size, 2, none⟩ = some (.int .i64 a) ∧ w'.cell? ⟨w3.heap.size, 0, none⟩ = some (.int .i64 v0) ∧ w'.cell? ⟨w3.heap.size, 1, none⟩ = some (.int .i64 v1) ∧ w'.cell? ⟨w3.heap.size, 2, none⟩ = some (.int .i64 v2) ∧ w'.cell? ⟨w3.heap.size, 3, none⟩ = some (.int .i64 v3)) (first | (simp [*]; done) | (refine ⟨?_, ?_, ?_, ?_, ?_⟩ <;> assumption))
      ((go_at_call 85; refine (unhide KS _ ?_).mono ?_; exact (unhide HI4).drew; intro e w5 hD; obtain ⟨rfl, ⟨vs5, hI5⟩, hK5⟩ := hD; have hbl := hK5.block w.heap.size hX4 (fun h => h.elim hne (unhide HNs)); have p0 := (World.cell?_of_block hbl).trans u0; have p1 := (World.cell?_of_block hbl).trans u1; have p2 := (World.cell?_of_block hbl).trans u2; have p3 := (World.cell?_of_block hbl).trans u3; have hbt := hK5.block w3.heap.size hz4 (unhide HNt w3.heap.size hs3); have z0 := (World.cell?_of_block hbt).trans y0; have z1 := (World.cell?_of_block hbt).trans y1; have z2 := (World.cell?_of_block hbt).trans y2; have z3 := (World.cell?_of_block hbt).trans y3; have HI5 := hide hI5; have HK5 := hide hK5; clear hbl hbt hI5 hK5))
    have HBl : Hid (Below B w w5) := (unhide HB4).drew.trans ((unhide HK5).below hB4 (unhide HNb))
    have hz5 : w.heap.size < w5.heap.size := Nat.lt_of_lt_of_le hX4 (unhide HK5).size
    clear HK5 u0 u1 u2 u3 y0 y1 y2 y3 z0 z1 z2 z3 HI4 HB4
    go_wp2_with fail
    go_region_held3 (fun w' => w'.cell? ⟨w.heap.size, 0, none⟩ = some (.int .i64 11) ∧ w'.cell? ⟨w.heap.size, 1, none⟩ = some (.int .i64 d) ∧ w'.cell? ⟨w.heap.size, 2, none⟩ = some (.int .i64 a) ∧ w'.cell? ⟨w.heap.size, 3, none⟩ = some (.int .i64 b)) (first | (simp [*]; done) | assumption)
      ((go_at_call 86; refine (unhide KD (s.see a) vo vs5 _ ?_ (unhide HV) rfl rfl rfl).mono ?_; exact (unhide HI5).drew; intro e w6 hD; have hbl := hD.2.2.block w.heap.size hz5 (fun h => h.elim hne (unhide HN)); have r0 := (World.cell?_of_block hbl).trans p0; have r1 := (World.cell?_of_block hbl).trans p1; have r2 := (World.cell?_of_block hbl).trans p2; have r3 := (World.cell?_of_block hbl).trans p3; have HP := hide (StepPost.of hD (unhide HI5).drew (unhide HBl).drew); obtain ⟨rfl, _, _⟩ := hD; clear hbl))
    go_wp2_with fail
    go_returns
    have hP := unhide HP
    exact hP
  -- Load
  · obtain ⟨⟨d0, d1⟩, a0, a1⟩ := (unhide HX).2.2.2.2.2.2.2.2.2.2.1 rfl
    simp only at d0 d1 a0 a1
    obtain ⟨dn, rfl⟩ : ∃ dn : Nat, d = dn := ⟨d.toNat, by omega⟩
    obtain ⟨an, rfl⟩ : ∃ an : Nat, a = an := ⟨a.toNat, by omega⟩
    have d2 : (dn : Int) < 16 := by omega
    have a2 : (an : Int) < 16 := by omega
    have cd : w2.cell? ⟨B, dn, none⟩ = some (.int .i64 (s.regs dn)) := (unhide HI2).1.1 dn (by omega)
    obtain ⟨y, hy⟩ : ∃ y, y = s.vars an := ⟨_, rfl⟩
    have ca : w2.cell? ⟨B, 23 + an, none⟩ = some (.int .i64 y) := by rw [hy]; exact (unhide HI2).1.2.1 an (by omega)
    have HY := hide hy
    have HVy : Hid (∀ i, 0 ≤ (s.reg dn y).regs i ∧ (s.reg dn y).regs i ≤ 65535) := upd_ok _ _ _ (unhide HV) (by rw [hy]; exact unhide HU an)
    have hkc : ∀ (wq : World) (z : Value), (wq.setCell ⟨B, dn, none⟩ z).cell? ⟨B, 23 + an, none⟩ = wq.cell? ⟨B, 23 + an, none⟩ := fun wq z => World.cell?_setCell_other _ _ _ _ (fun e => by injection e with e1 e2; omega)
    clear hy KA
    go_enter Tryd.func59, Tryd.ntmps59
    go_wp2_with fail
    rw [← unhide HW]
    go_region_held3 (fun w' => w'.cell? ⟨w.heap.size, 1, none⟩ = some (.int .i64 (dn : Int)) ∧ w'.cell? ⟨w.heap.size, 2, none⟩ = some (.int .i64 (an : Int)) ∧ w'.cell? ⟨B, 23 + an, none⟩ = some (.int .i64 y)) (simp [*]) (fail)
    obtain ⟨w4, hw4⟩ : ∃ w4, w4 = (w2.setCell ⟨B, dn, none⟩ (.int .i64 y)).drew := ⟨_, rfl⟩
    rw [← hw4]
    have HI4 : Hid (Inv w4 B (s.reg dn y) vo vs) := by
      rw [hw4]; exact ((unhide HI2).turn ((unhide HI2).1.set_reg dn (by omega) _) (keep_set (Keep.refl _ _) _ _) rfl rfl).drew
    have HBl : Hid (Below B w w4) := by rw [hw4]; exact ((unhide HBel).setCell (p := ⟨B, dn, none⟩) (Nat.le_refl _) _).drew
    have hz4 : w.heap.size < w4.heap.size := by rw [hw4]; simp; exact hz2
    have p0 : w4.cell? ⟨w.heap.size, 0, none⟩ = some (.int .i64 15) := by rw [hw4]; exact (hk _ _ _ _).trans q0
    have p1 : w4.cell? ⟨w.heap.size, 1, none⟩ = some (.int .i64 (dn : Int)) := by rw [hw4]; exact (hk _ _ _ _).trans q1
    have p2 : w4.cell? ⟨w.heap.size, 2, none⟩ = some (.int .i64 (an : Int)) := by rw [hw4]; exact (hk _ _ _ _).trans q2
    have p3 : w4.cell? ⟨w.heap.size, 3, none⟩ = some (.int .i64 b) := by rw [hw4]; exact (hk _ _ _ _).trans q3
    clear hw4 q0 q1 q2 q3 cd ca
    go_wp2_with fail
    go_region_held3 (fun w' => w'.cell? ⟨w.heap.size, 0, none⟩ = some (.int .i64 15) ∧ w'.cell? ⟨w.heap.size, 1, none⟩ = some (.int .i64 (dn : Int)) ∧ w'.cell? ⟨w.heap.size, 2, none⟩ = some (.int .i64 (an : Int)) ∧ w'.cell? ⟨w.heap.size, 3, none⟩ = some (.int .i64 b)) (first | (simp [*]; done) | assumption)
      ((go_at_call 86; refine (unhide KD (s.reg dn y) vo vs _ ?_ (unhide HVy) rfl rfl rfl).mono ?_; exact (unhide HI4).drew; intro e w5 hD; have hbl := hD.2.2.block w.heap.size hz4 (fun h => h.elim hne (unhide HN)); have r0 := (World.cell?_of_block hbl).trans p0; have r1 := (World.cell?_of_block hbl).trans p1; have r2 := (World.cell?_of_block hbl).trans p2; have r3 := (World.cell?_of_block hbl).trans p3; have HP := hide (StepPost.of hD (unhide HI4).drew (unhide HBl).drew); obtain ⟨rfl, _, _⟩ := hD; clear hbl))
    go_wp2_with fail
    go_returns
    have hP := unhide HP
    rw [unhide HY] at hP
    exact hP
  -- Store
  · obtain ⟨⟨d0, d1⟩, a0, a1⟩ := (unhide HX).2.2.2.2.2.2.2.2.2.2.2 rfl
    simp only at d0 d1 a0 a1
    obtain ⟨dn, rfl⟩ : ∃ dn : Nat, d = dn := ⟨d.toNat, by omega⟩
    obtain ⟨an, rfl⟩ : ∃ an : Nat, a = an := ⟨a.toNat, by omega⟩
    have d2 : (dn : Int) < 16 := by omega
    have a2 : (an : Int) < 16 := by omega
    have cd : w2.cell? ⟨B, 23 + dn, none⟩ = some (.int .i64 (s.vars dn)) := (unhide HI2).1.2.1 dn (by omega)
    obtain ⟨y, hy⟩ : ∃ y, y = s.regs an := ⟨_, rfl⟩
    have ca : w2.cell? ⟨B, an, none⟩ = some (.int .i64 y) := by rw [hy]; exact (unhide HI2).1.1 an (by omega)
    have HY := hide hy
    have hkc : ∀ (wq : World) (z : Value), (wq.setCell ⟨B, 23 + dn, none⟩ z).cell? ⟨B, an, none⟩ = wq.cell? ⟨B, an, none⟩ := fun wq z => World.cell?_setCell_other _ _ _ _ (fun e => by injection e with e1 e2; omega)
    clear hy KA
    go_enter Tryd.func59, Tryd.ntmps59
    go_wp2_with fail
    rw [← unhide HW]
    go_region_held3 (fun w' => w'.cell? ⟨w.heap.size, 1, none⟩ = some (.int .i64 (dn : Int)) ∧ w'.cell? ⟨w.heap.size, 2, none⟩ = some (.int .i64 (an : Int)) ∧ w'.cell? ⟨B, an, none⟩ = some (.int .i64 y)) (simp [*]) (fail)
    obtain ⟨w4, hw4⟩ : ∃ w4, w4 = (w2.setCell ⟨B, 23 + dn, none⟩ (.int .i64 y)).drew := ⟨_, rfl⟩
    rw [← hw4]
    have HI4 : Hid (Inv w4 B (s.var dn y) vo vs) := by
      rw [hw4]; exact ((unhide HI2).turn ((unhide HI2).1.set_var dn (by omega) _) (keep_set (Keep.refl _ _) _ _) rfl rfl).drew
    have HBl : Hid (Below B w w4) := by rw [hw4]; exact ((unhide HBel).setCell (p := ⟨B, 23 + dn, none⟩) (Nat.le_refl _) _).drew
    have hz4 : w.heap.size < w4.heap.size := by rw [hw4]; simp; exact hz2
    have p0 : w4.cell? ⟨w.heap.size, 0, none⟩ = some (.int .i64 16) := by rw [hw4]; exact (hk _ _ _ _).trans q0
    have p1 : w4.cell? ⟨w.heap.size, 1, none⟩ = some (.int .i64 (dn : Int)) := by rw [hw4]; exact (hk _ _ _ _).trans q1
    have p2 : w4.cell? ⟨w.heap.size, 2, none⟩ = some (.int .i64 (an : Int)) := by rw [hw4]; exact (hk _ _ _ _).trans q2
    have p3 : w4.cell? ⟨w.heap.size, 3, none⟩ = some (.int .i64 b) := by rw [hw4]; exact (hk _ _ _ _).trans q3
    clear hw4 q0 q1 q2 q3 cd ca
    go_wp2_with fail
    go_region_held3 (fun w' => w'.cell? ⟨w.heap.size, 0, none⟩ = some (.int .i64 16) ∧ w'.cell? ⟨w.heap.size, 1, none⟩ = some (.int .i64 (dn : Int)) ∧ w'.cell? ⟨w.heap.size, 2, none⟩ = some (.int .i64 (an : Int)) ∧ w'.cell? ⟨w.heap.size, 3, none⟩ = some (.int .i64 b)) (first | (simp [*]; done) | assumption)
      ((go_at_call 86; refine (unhide KD (s.var dn y) vo vs _ ?_ (unhide HV) rfl rfl rfl).mono ?_; exact (unhide HI4).drew; intro e w5 hD; have hbl := hD.2.2.block w.heap.size hz4 (fun h => h.elim hne (unhide HN)); have r0 := (World.cell?_of_block hbl).trans p0; have r1 := (World.cell?_of_block hbl).trans p1; have r2 := (World.cell?_of_block hbl).trans p2; have r3 := (World.cell?_of_block hbl).trans p3; have HP := hide (StepPost.of hD (unhide HI4).drew (unhide HBl).drew); obtain ⟨rfl, _, _⟩ := hD; clear hbl))
    go_wp2_with fail
    go_returns
    have hP := unhide HP
    rw [unhide HY] at hP
    exact hP
end Go.Proofs.YtoepcplbpochpaaDoor
