/-
  One step of the program's own unit's run: (*mach.run).step.
-/
import Derived.Test.YtoepcplbpochpaaDoorPiece21
import Derived.Test.YtoepcplbpochpaaDoorPiece7
import Derived.Test.YtoepcplbpochpaaDoorPiece20
import Derived.Test.YtoepcplbpochpaaDoorPiece5
import Derived.Deep.WholeRow
import Derived.Test.YtoepcplbpochpaaDoorPiece8
import Derived.Test.YtoepcplbpochpaaDoorPiece1

namespace Go.Proofs.YtoepcplbpochpaaDoor
open Go.RowKit

set_option maxRecDepth 100000 in
set_option maxHeartbeats 8000000 in
theorem machStep_any (B : Nat) (s : St) (vo vs : Value) (x : In4) (K n S : Int) (R : List Rg) (ao : Option Addr) (cap : Nat) (w : World) (h : Inv w B s vo vs) (hx : Right K n S x) (hp : x.op ≤ 11 ∨ 15 ≤ x.op) (hE : s.env = unitEnv R (some (.slice ao R.length cap))) (hH : Held w ao R) (hF : ∀ i, i < R.length → RgFit (rg R i)) (ht : isTab R = true) (hK : K ≤ 16) (hS : S ≤ 16)
    (hv : ∀ i, 0 ≤ s.regs i ∧ s.regs i ≤ 65535) (hu : ∀ i, 0 ≤ s.vars i ∧ s.vars i ≤ 65535) (hat : s.at_ ≤ 1000) (hst : s.steps ≤ 100000) (hol : s.outs.length ≤ 100000) (hsl : s.stops.length ≤ 100000) :
    Calls Tryd.prog 59 #[.pointer (some ⟨B, 0, none⟩), .agg #[.int .i64 x.op, .int .i64 x.d, .int .i64 x.a, .int .i64 x.b]] w (StepPost w B (stepSt x s)) := by
  have hB := h.1.lt
  have hlen : R.length ≤ 1000 := by have := isTab_len ht; omega
  have KD := hide (fun (s' : St) (vo' vs' : Value) (w' : World) (h' : Inv w' B s' vo' vs') (hr : ∀ i, 0 ≤ s'.regs i ∧ s'.regs i ≤ 65535) (ha : s'.at_ = s.at_) (hst' : s'.steps = s.steps) (ho : s'.outs = s.outs) => do_any B s' vo' vs' x K n S w' h' hx hK (fun i _ => hr i) (by rw [ha]; exact hat) (by rw [hst']; exact hst) (by rw [ho]; exact hol))
  have KA := hide (fun (w' : World) (h' : Inv w' B s vo vs) (hH' : Held w' ao R) => ask_any B s vo vs R ao cap s.at_ w' h'.1 hE hH' hF hlen)
  have HTL : Hid (∀ v, s.tell v = toldTo R s.regs s.vars s.at_ v R.length) := fun v => by unfold St.tell; rw [hE, told_eq ht]; rfl
  obtain ⟨w2, hw2, HI2, HK2, q0, q1, q2, q3, hz2, hf2⟩ := step_open x.op x.d x.a x.b h
  have HW := hide hw2
  have hB2 : B < w2.heap.size := (unhide HI2).1.lt
  have HBel : Hid (Below B w w2) := (unhide HK2).below (Nat.le_of_lt hB) (fun k hk e => by omega)
  have HI := hide h
  have HX := hide hx
  have HH2 : Hid (Held w2 ao R) := by rw [hw2]; exact hH.below ((Below.refl _ _).alloc (Nat.le_refl _) _)
  have hne : w.heap.size ≠ B := by omega
  have hk : ∀ (wq : World) (j o : Nat) (z : Value), (wq.setCell ⟨B, j, none⟩ z).cell? ⟨w.heap.size, o, none⟩ = wq.cell? ⟨w.heap.size, o, none⟩ := fun wq j o z => World.cell?_setCell_other _ _ _ _ (fun e => by injection e with e1; omega)
  have HV := hide hv
  have HU := hide hu
  have hnv : s.env.nv = 16 := by rw [hE]; rfl
  clear h hx hw2 hv hu hH hF hE ht
  have o0 : 0 ≤ x.op := (unhide HX).1
  have o1 : x.op ≤ 16 := (unhide HX).2.1
  have HN : Hid (some w.heap.size ≠ vo.ownBlock) := fun e => by have := (own_in (unhide HI).2.1 _ e.symm).2; omega
  obtain ⟨op, d, a, b⟩ := x
  simp only at *
  rcases (show op ≤ 10 ∨ op = 11 ∨ op = 15 ∨ op = 16 by omega) with ho | rfl | rfl | rfl
  · have HP0 := hide (pre_eq ⟨op, d, a, b⟩ s ho)
    have HBl := HBel
    have h11 : (op == 11) = false := by rw [beq_eq_false_iff_ne]; omega
    have h15 : (op == 15) = false := by rw [beq_eq_false_iff_ne]; omega
    have h16 : (op == 16) = false := by rw [beq_eq_false_iff_ne]; omega
    clear KA
    go_enter Tryd.func59, Tryd.ntmps59
    go_wp2_with fail
    rw [← unhide HW]
    go_wp2_with fail
    go_region_held3 (fun w' => w'.cell? ⟨w.heap.size, 0, none⟩ = some (.int .i64 op) ∧ w'.cell? ⟨w.heap.size, 1, none⟩ = some (.int .i64 d) ∧ w'.cell? ⟨w.heap.size, 2, none⟩ = some (.int .i64 a) ∧ w'.cell? ⟨w.heap.size, 3, none⟩ = some (.int .i64 b)) (first | (simp [*]; done) | assumption)
      ((go_at_call 86; refine (unhide KD s vo vs _ ?_ (unhide HV) rfl rfl rfl).mono ?_; exact (unhide HI2).drew; intro e w5 hD; have hbl := hD.2.2.block w.heap.size hz2 (fun h => h.elim hne (unhide HN)); have r0 := (World.cell?_of_block hbl).trans q0; have r1 := (World.cell?_of_block hbl).trans q1; have r2 := (World.cell?_of_block hbl).trans q2; have r3 := (World.cell?_of_block hbl).trans q3; have HP := hide (StepPost.of hD (unhide HI2).drew (unhide HBl).drew); obtain ⟨rfl, _, _⟩ := hD; clear hbl))
    go_wp2_with fail
    go_returns
    have hP := unhide HP
    unfold stepSt
    rw [unhide HP0]
    exact hP
  -- Stop
  · obtain ⟨v0, e0⟩ : ∃ v, s.tell 0 = v := ⟨_, rfl⟩
    obtain ⟨v1, e1⟩ : ∃ v, s.tell 1 = v := ⟨_, rfl⟩
    obtain ⟨v2, e2⟩ : ∃ v, s.tell 2 = v := ⟨_, rfl⟩
    obtain ⟨v3, e3⟩ : ∃ v, s.tell 3 = v := ⟨_, rfl⟩
    have KS := hide (fun w' (h : Inv w' B s vo vs) => see_any B s vo vs a v0 v1 v2 v3 w' h e0 e1 e2 e3 hsl)
    have KA' := hide (fun (w' : World) (h' : Inv w' B s vo vs) (hH' : Held w' ao R) => unhide KA w' h' hH')
    rw [← unhide HTL 0, ← unhide HTL 1, ← unhide HTL 2, ← unhide HTL 3, e0, e1, e2, e3] at KA'
    have c16 : w.cell? ⟨B, 16, none⟩ = some (.int .i64 (s.at_ : Int)) := (unhide HI).1.2.2.1
    have HNs : Hid (some w.heap.size ≠ vs.ownBlock) := fun e => by have := (own_in (unhide HI).2.2 _ e.symm).2; omega
    have HNb : Hid (∀ k, k < B → ¬ (k = B ∨ some k = vs.ownBlock)) := fun k hk e => e.elim (fun e => by omega) (fun e => by have := (own_in (unhide HI2).2.2 k e.symm).1; omega)
    have HNt : Hid (∀ g, w2.heap.size ≤ g → ¬ (g = B ∨ some g = vs.ownBlock)) := fun g hg e => e.elim (fun e => by omega) (fun e => by have := (own_in (unhide HI2).2.2 g e.symm).2; omega)
    clear e0 e1 e2 e3 KA HTL
    go_enter Tryd.func59, Tryd.ntmps59
    go_wp2_with fail
    rw [← unhide HW]
    refine (unhide KA' w2 (unhide HI2) (unhide HH2)).mono ?_
    rintro e w3 ⟨rfl, hb3⟩
    have HI3 : Hid (Inv w3 B s vo vs) := (unhide HI2).keep (Keep.of_below hb3 (fun _ => False))
    have HB3 : Hid (Below B w w3) := (unhide HBel).trans (hb3.mono (Nat.le_of_lt hB2))
    have t0 := (hb3.cell (p := ⟨w.heap.size, 0, none⟩) hz2).trans q0
    have t1 := (hb3.cell (p := ⟨w.heap.size, 1, none⟩) hz2).trans q1
    have t2 := (hb3.cell (p := ⟨w.heap.size, 2, none⟩) hz2).trans q2
    have t3 := (hb3.cell (p := ⟨w.heap.size, 3, none⟩) hz2).trans q3
    have hs3 := hb3.size
    clear hb3 q0 q1 q2 q3 c16 KA'
    go_wp2_with fail
    obtain ⟨w4, hw4⟩ : ∃ w4, w4 = w3.alloc (.cells #[.int .i64 v0, .int .i64 v1, .int .i64 v2, .int .i64 v3] 61) := ⟨_, rfl⟩
    rw [← hw4]
    have hb4 : Below w3.heap.size w3 w4 := by rw [hw4]; exact (Below.refl _ _).alloc (Nat.le_refl _) _
    have y : ∀ i, w4.cell? ⟨w3.heap.size, i, none⟩ = #[Value.int .i64 v0, .int .i64 v1, .int .i64 v2, .int .i64 v3][i]? := fun i => by rw [hw4]; exact World.cell?_alloc_at (hn := rfl) ..
    have y0 : w4.cell? ⟨w3.heap.size, 0, none⟩ = some (.int .i64 v0) := (y 0).trans rfl
    have y1 : w4.cell? ⟨w3.heap.size, 1, none⟩ = some (.int .i64 v1) := (y 1).trans rfl
    have y2 : w4.cell? ⟨w3.heap.size, 2, none⟩ = some (.int .i64 v2) := (y 2).trans rfl
    have y3 : w4.cell? ⟨w3.heap.size, 3, none⟩ = some (.int .i64 v3) := (y 3).trans rfl
    have HI4 : Hid (Inv w4 B s vo vs) := (unhide HI3).keep (Keep.of_below hb4 (fun _ => False))
    have HB4 : Hid (Below B w w4) := (unhide HB3).trans (hb4.mono (by omega))
    have u0 := (hb4.cell (p := ⟨w.heap.size, 0, none⟩) (show w.heap.size < w3.heap.size by omega)).trans t0
    have u1 := (hb4.cell (p := ⟨w.heap.size, 1, none⟩) (show w.heap.size < w3.heap.size by omega)).trans t1
    have u2 := (hb4.cell (p := ⟨w.heap.size, 2, none⟩) (show w.heap.size < w3.heap.size by omega)).trans t2
    have u3 := (hb4.cell (p := ⟨w.heap.size, 3, none⟩) (show w.heap.size < w3.heap.size by omega)).trans t3
    have hz4 : w3.heap.size < w4.heap.size := by rw [hw4]; simp
    have hX4 : w.heap.size < w4.heap.size := by omega
    have hB4 : B ≤ w4.heap.size := by omega
    clear hw4 hb4 y t0 t1 t2 t3 HI3 HB3
    go_region_held3 (fun w' => w'.cell? ⟨w.heap.size, 2, none⟩ = some (.int .i64 a) ∧ w'.cell? ⟨w3.heap.size, 0, none⟩ = some (.int .i64 v0) ∧ w'.cell? ⟨w3.heap.size, 1, none⟩ = some (.int .i64 v1) ∧ w'.cell? ⟨w3.heap.size, 2, none⟩ = some (.int .i64 v2) ∧ w'.cell? ⟨w3.heap.size, 3, none⟩ = some (.int .i64 v3)) (first | (simp [*]; done) | (refine ⟨?_, ?_, ?_, ?_, ?_⟩ <;> assumption))
      ((go_at_call 85; refine (unhide KS _ ?_).mono ?_; exact (unhide HI4).drew; intro e w5 hD; obtain ⟨rfl, ⟨vs5, hI5⟩, hK5⟩ := hD; have hbl := hK5.block w.heap.size hX4 (fun h => h.elim hne (unhide HNs)); have p0 := (World.cell?_of_block hbl).trans u0; have p1 := (World.cell?_of_block hbl).trans u1; have p2 := (World.cell?_of_block hbl).trans u2; have p3 := (World.cell?_of_block hbl).trans u3; have hbt := hK5.block w3.heap.size hz4 (unhide HNt w3.heap.size hs3); have z0 := (World.cell?_of_block hbt).trans y0; have z1 := (World.cell?_of_block hbt).trans y1; have z2 := (World.cell?_of_block hbt).trans y2; have z3 := (World.cell?_of_block hbt).trans y3; have HI5 := hide hI5; have HK5 := hide hK5; clear hbl hbt hI5 hK5))
    have HBl : Hid (Below B w w5) := (unhide HB4).drew.trans ((unhide HK5).below hB4 (unhide HNb))
    have hz5 : w.heap.size < w5.heap.size := Nat.lt_of_lt_of_le hX4 (unhide HK5).size
    clear HK5 u0 u1 u2 u3 y0 y1 y2 y3 z0 z1 z2 z3 HI4 HB4
    go_wp2_with fail
    go_region_held3 (fun w' => w'.cell? ⟨w.heap.size, 0, none⟩ = some (.int .i64 11) ∧ w'.cell? ⟨w.heap.size, 1, none⟩ = some (.int .i64 d) ∧ w'.cell? ⟨w.heap.size, 2, none⟩ = some (.int .i64 a) ∧ w'.cell? ⟨w.heap.size, 3, none⟩ = some (.int .i64 b)) (first | (simp [*]; done) | assumption)
      ((go_at_call 86; refine (unhide KD (s.see a) vo vs5 _ ?_ (unhide HV) rfl rfl rfl).mono ?_; exact (unhide HI5).drew; intro e w6 hD; have hbl := hD.2.2.block w.heap.size hz5 (fun h => h.elim hne (unhide HN)); have r0 := (World.cell?_of_block hbl).trans p0; have r1 := (World.cell?_of_block hbl).trans p1; have r2 := (World.cell?_of_block hbl).trans p2; have r3 := (World.cell?_of_block hbl).trans p3; have HP := hide (StepPost.of hD (unhide HI5).drew (unhide HBl).drew); obtain ⟨rfl, _, _⟩ := hD; clear hbl))
    go_wp2_with fail
    go_returns
    have hP := unhide HP
    exact hP
  -- Load
  · obtain ⟨⟨d0, d1⟩, a0, a1⟩ := (unhide HX).2.2.2.2.2.2.2.2.2.2.1 rfl
    simp only at d0 d1 a0 a1
    obtain ⟨dn, rfl⟩ : ∃ dn : Nat, d = dn := ⟨d.toNat, by omega⟩
    obtain ⟨an, rfl⟩ : ∃ an : Nat, a = an := ⟨a.toNat, by omega⟩
    have d2 : (dn : Int) < 16 := by omega
    have a2 : (an : Int) < 16 := by omega
    have cd : w2.cell? ⟨B, dn, none⟩ = some (.int .i64 (s.regs dn)) := (unhide HI2).1.1 dn (by omega)
    obtain ⟨y, hy⟩ : ∃ y, y = s.vars an := ⟨_, rfl⟩
    have ca : w2.cell? ⟨B, 23 + an, none⟩ = some (.int .i64 y) := by rw [hy]; exact (unhide HI2).1.2.1 an (by omega)
    have HY := hide hy
    have HVy : Hid (∀ i, 0 ≤ (s.reg dn y).regs i ∧ (s.reg dn y).regs i ≤ 65535) := upd_ok _ _ _ (unhide HV) (by rw [hy]; exact unhide HU an)
    have hkc : ∀ (wq : World) (z : Value), (wq.setCell ⟨B, dn, none⟩ z).cell? ⟨B, 23 + an, none⟩ = wq.cell? ⟨B, 23 + an, none⟩ := fun wq z => World.cell?_setCell_other _ _ _ _ (fun e => by injection e with e1 e2; omega)
    clear hy KA
    go_enter Tryd.func59, Tryd.ntmps59
    go_wp2_with fail
    rw [← unhide HW]
    go_region_held3 (fun w' => w'.cell? ⟨w.heap.size, 1, none⟩ = some (.int .i64 (dn : Int)) ∧ w'.cell? ⟨w.heap.size, 2, none⟩ = some (.int .i64 (an : Int)) ∧ w'.cell? ⟨B, 23 + an, none⟩ = some (.int .i64 y)) (simp [*]) (fail)
    obtain ⟨w4, hw4⟩ : ∃ w4, w4 = (w2.setCell ⟨B, dn, none⟩ (.int .i64 y)).drew := ⟨_, rfl⟩
    rw [← hw4]
    have HI4 : Hid (Inv w4 B (s.reg dn y) vo vs) := by
      rw [hw4]; exact ((unhide HI2).turn ((unhide HI2).1.set_reg dn (by omega) _) (keep_set (Keep.refl _ _) _ _) rfl rfl).drew
    have HBl : Hid (Below B w w4) := by rw [hw4]; exact ((unhide HBel).setCell (p := ⟨B, dn, none⟩) (Nat.le_refl _) _).drew
    have hz4 : w.heap.size < w4.heap.size := by rw [hw4]; simp; exact hz2
    have p0 : w4.cell? ⟨w.heap.size, 0, none⟩ = some (.int .i64 15) := by rw [hw4]; exact (hk _ _ _ _).trans q0
    have p1 : w4.cell? ⟨w.heap.size, 1, none⟩ = some (.int .i64 (dn : Int)) := by rw [hw4]; exact (hk _ _ _ _).trans q1
    have p2 : w4.cell? ⟨w.heap.size, 2, none⟩ = some (.int .i64 (an : Int)) := by rw [hw4]; exact (hk _ _ _ _).trans q2
    have p3 : w4.cell? ⟨w.heap.size, 3, none⟩ = some (.int .i64 b) := by rw [hw4]; exact (hk _ _ _ _).trans q3
    clear hw4 q0 q1 q2 q3 cd ca
    go_wp2_with fail
    go_region_held3 (fun w' => w'.cell? ⟨w.heap.size, 0, none⟩ = some (.int .i64 15) ∧ w'.cell? ⟨w.heap.size, 1, none⟩ = some (.int .i64 (dn : Int)) ∧ w'.cell? ⟨w.heap.size, 2, none⟩ = some (.int .i64 (an : Int)) ∧ w'.cell? ⟨w.heap.size, 3, none⟩ = some (.int .i64 b)) (first | (simp [*]; done) | assumption)
      ((go_at_call 86; refine (unhide KD (s.reg dn y) vo vs _ ?_ (unhide HVy) rfl rfl rfl).mono ?_; exact (unhide HI4).drew; intro e w5 hD; have hbl := hD.2.2.block w.heap.size hz4 (fun h => h.elim hne (unhide HN)); have r0 := (World.cell?_of_block hbl).trans p0; have r1 := (World.cell?_of_block hbl).trans p1; have r2 := (World.cell?_of_block hbl).trans p2; have r3 := (World.cell?_of_block hbl).trans p3; have HP := hide (StepPost.of hD (unhide HI4).drew (unhide HBl).drew); obtain ⟨rfl, _, _⟩ := hD; clear hbl))
    go_wp2_with fail
    go_returns
    have hP := unhide HP
    rw [unhide HY] at hP
    exact hP
  -- Store
  · obtain ⟨⟨d0, d1⟩, a0, a1⟩ := (unhide HX).2.2.2.2.2.2.2.2.2.2.2 rfl
    simp only at d0 d1 a0 a1
    obtain ⟨dn, rfl⟩ : ∃ dn : Nat, d = dn := ⟨d.toNat, by omega⟩
    obtain ⟨an, rfl⟩ : ∃ an : Nat, a = an := ⟨a.toNat, by omega⟩
    have d2 : (dn : Int) < 16 := by omega
    have a2 : (an : Int) < 16 := by omega
    have cd : w2.cell? ⟨B, 23 + dn, none⟩ = some (.int .i64 (s.vars dn)) := (unhide HI2).1.2.1 dn (by omega)
    obtain ⟨y, hy⟩ : ∃ y, y = s.regs an := ⟨_, rfl⟩
    have ca : w2.cell? ⟨B, an, none⟩ = some (.int .i64 y) := by rw [hy]; exact (unhide HI2).1.1 an (by omega)
    have HY := hide hy
    have hkc : ∀ (wq : World) (z : Value), (wq.setCell ⟨B, 23 + dn, none⟩ z).cell? ⟨B, an, none⟩ = wq.cell? ⟨B, an, none⟩ := fun wq z => World.cell?_setCell_other _ _ _ _ (fun e => by injection e with e1 e2; omega)
    clear hy KA
    go_enter Tryd.func59, Tryd.ntmps59
    go_wp2_with fail
    rw [← unhide HW]
    go_region_held3 (fun w' => w'.cell? ⟨w.heap.size, 1, none⟩ = some (.int .i64 (dn : Int)) ∧ w'.cell? ⟨w.heap.size, 2, none⟩ = some (.int .i64 (an : Int)) ∧ w'.cell? ⟨B, an, none⟩ = some (.int .i64 y)) (simp [*]) (fail)
    obtain ⟨w4, hw4⟩ : ∃ w4, w4 = (w2.setCell ⟨B, 23 + dn, none⟩ (.int .i64 y)).drew := ⟨_, rfl⟩
    rw [← hw4]
    have HI4 : Hid (Inv w4 B (s.var dn y) vo vs) := by
      rw [hw4]; exact ((unhide HI2).turn ((unhide HI2).1.set_var dn (by omega) _) (keep_set (Keep.refl _ _) _ _) rfl rfl).drew
    have HBl : Hid (Below B w w4) := by rw [hw4]; exact ((unhide HBel).setCell (p := ⟨B, 23 + dn, none⟩) (Nat.le_refl _) _).drew
    have hz4 : w.heap.size < w4.heap.size := by rw [hw4]; simp; exact hz2
    have p0 : w4.cell? ⟨w.heap.size, 0, none⟩ = some (.int .i64 16) := by rw [hw4]; exact (hk _ _ _ _).trans q0
    have p1 : w4.cell? ⟨w.heap.size, 1, none⟩ = some (.int .i64 (dn : Int)) := by rw [hw4]; exact (hk _ _ _ _).trans q1
    have p2 : w4.cell? ⟨w.heap.size, 2, none⟩ = some (.int .i64 (an : Int)) := by rw [hw4]; exact (hk _ _ _ _).trans q2
    have p3 : w4.cell? ⟨w.heap.size, 3, none⟩ = some (.int .i64 b) := by rw [hw4]; exact (hk _ _ _ _).trans q3
    clear hw4 q0 q1 q2 q3 cd ca
    go_wp2_with fail
    go_region_held3 (fun w' => w'.cell? ⟨w.heap.size, 0, none⟩ = some (.int .i64 16) ∧ w'.cell? ⟨w.heap.size, 1, none⟩ = some (.int .i64 (dn : Int)) ∧ w'.cell? ⟨w.heap.size, 2, none⟩ = some (.int .i64 (an : Int)) ∧ w'.cell? ⟨w.heap.size, 3, none⟩ = some (.int .i64 b)) (first | (simp [*]; done) | assumption)
      ((go_at_call 86; refine (unhide KD (s.var dn y) vo vs _ ?_ (unhide HV) rfl rfl rfl).mono ?_; exact (unhide HI4).drew; intro e w5 hD; have hbl := hD.2.2.block w.heap.size hz4 (fun h => h.elim hne (unhide HN)); have r0 := (World.cell?_of_block hbl).trans p0; have r1 := (World.cell?_of_block hbl).trans p1; have r2 := (World.cell?_of_block hbl).trans p2; have r3 := (World.cell?_of_block hbl).trans p3; have HP := hide (StepPost.of hD (unhide HI4).drew (unhide HBl).drew); obtain ⟨rfl, _, _⟩ := hD; clear hbl))
    go_wp2_with fail
    go_returns
    have hP := unhide HP
    rw [unhide HY] at hP
    exact hP
end Go.Proofs.YtoepcplbpochpaaDoor

/-
  How the program's own run of a unit begins: mach.begin.
-/
namespace Go.Proofs.YtoepcplbpochpaaDoor
open Go.RowKit

theorem Tryd.size97 : (Tryd.prog.info? 97).map (·.size) = some 40 := by kernel_rfl
def b81 (tv : Value) : Array Value := #[.int .i64 0, .int .i64 0, .int .i64 0, .int .i64 0, .int .i64 0, .int .i64 0, .int .i64 0, .int .i64 0, .int .i64 0, .int .i64 0, .int .i64 0, .int .i64 0, .int .i64 0, .int .i64 0, .int .i64 0, .int .i64 0, .int .i64 0, .bool true, .int .i64 2, .int .i64 0, .int .i64 0, .slice none 0 0, .slice none 0 0, .int .i64 0, .int .i64 0, .int .i64 0, .int .i64 0, .int .i64 0, .int .i64 0, .int .i64 0, .int .i64 0, .int .i64 0, .int .i64 0, .int .i64 0, .int .i64 0, .int .i64 0, .int .i64 0, .int .i64 0, .int .i64 0, tv]

/-- The cells of a unit's run. -/
def AggU (cs : Array Value) (s : St) (vo vs tv : Value) : Prop :=
  cs.size = 40 ∧ (∀ i, i < 16 → cs[i]? = some (.int .i64 (s.regs i))) ∧ (∀ i, i < 16 → cs[23 + i]? = some (.int .i64 (s.vars i))) ∧
  cs[16]? = some (.int .i64 (s.at_ : Int)) ∧ cs[17]? = some (.bool s.on) ∧ cs[18]? = some (.int .i64 s.kind) ∧ cs[19]? = some (.int .i64 s.val) ∧ cs[20]? = some (.int .i64 (s.steps : Int)) ∧ cs[21]? = some vo ∧ cs[22]? = some vs ∧ cs[39]? = some tv
theorem AggU.stb {w : World} {B : Nat} {cs : Array Value} {t : TypeId} {s : St} {vo vs tv : Value} {R : List Rg} (h : AggU cs s vo vs tv) (hE : s.env = unitEnv R (some tv)) (hg : w.heap[B]? = some (.cells cs t (0, 0))) : StB w B s vo vs := by
  have c : ∀ o, w.cell? ⟨B, o, none⟩ = cs[o]? := fun o => cell_of_row w B o cs t (0, 0) hg
  obtain ⟨hn, h0, h1, h2, h3, h4, h5, h6, h7, h8, h9⟩ := h
  refine ⟨fun i hi => (c _).trans (h0 i hi), fun i hi => (c _).trans (h1 i (by rw [hE] at hi; exact hi)), (c _).trans h2, (c _).trans h3, (c _).trans h4, (c _).trans h5, (c _).trans h6, (c _).trans h7, (c _).trans h8, fun o => by simp [World.frozen?, hg], fun o ho => ?_⟩
  rw [hE] at ho ⊢
  have ho' : 39 ≤ o := ho
  show _ = if o = 39 then some tv else none
  rw [c o]
  by_cases e : o = 39
  · rw [if_pos e, e]; exact h9
  · rw [if_neg e, Array.getElem?_eq_none (by rw [hn]; omega)]
theorem AggU.of_stb {w : World} {B : Nat} {cs : Array Value} {t : TypeId} {s : St} {vo vs tv : Value} {R : List Rg} (h : StB w B s vo vs) (hE : s.env = unitEnv R (some tv)) (hg : w.heap[B]? = some (.cells cs t (0, 0))) (hn : cs.size = 40) : AggU cs s vo vs tv := by
  have c : ∀ o, cs[o]? = w.cell? ⟨B, o, none⟩ := fun o => (cell_of_row w B o cs t (0, 0) hg).symm
  obtain ⟨h0, h1, h2, h3, h4, h5, h6, h7, h8, _, hx⟩ := h
  refine ⟨hn, fun i hi => (c _).trans (h0 i hi), fun i hi => (c _).trans (h1 i (by rw [hE]; exact hi)), (c _).trans h2, (c _).trans h3, (c _).trans h4, (c _).trans h5, (c _).trans h6, (c _).trans h7, (c _).trans h8, (c _).trans ?_⟩
  have := hx 39 (by rw [hE]; exact Nat.le_refl _)
  rw [hE] at this
  exact this
theorem AggU.plain {cs : Array Value} {s : St} {ao : Option Addr} {n cap : Nat} (h : AggU cs s (.slice none 0 0) (.slice none 0 0) (.slice ao n cap)) : cs.all (·.oneCell') = true := by
  obtain ⟨hn, h0, h1, h2, h3, h4, h5, h6, h7, h8, h9⟩ := h
  rw [Array.all_eq_true]
  intro i hi
  have key : ∀ v, cs[i]? = some v → v.oneCell' = true → cs[i].oneCell' = true := fun v hv h1 => by
    have e : cs[i]? = some cs[i] := Array.getElem?_eq_getElem hi
    rw [e] at hv; injection hv with hv; rw [hv]; exact h1
  rcases (show i < 16 ∨ i = 16 ∨ i = 17 ∨ i = 18 ∨ i = 19 ∨ i = 20 ∨ i = 21 ∨ i = 22 ∨ i = 39 ∨ (23 ≤ i ∧ i < 39) by omega) with h | rfl | rfl | rfl | rfl | rfl | rfl | rfl | rfl | h
  · exact key _ (h0 i h) rfl
  · exact key _ h2 rfl
  · exact key _ h3 rfl
  · exact key _ h4 rfl
  · exact key _ h5 rfl
  · exact key _ h6 rfl
  · exact key _ h7 rfl
  · exact key _ h8 rfl
  · exact key _ h9 rfl
  · have := h1 (i - 23) (by omega)
    rw [show 23 + (i - 23) = i by omega] at this
    exact key _ this rfl

/-- A unit's run of which the first k args are laid. -/
def begU (R : List Rg) (tv : Option Value) (xs : List Int) (k : Nat) : St := ⟨0, fun _ => 0, fun i => if i < k then nth xs i else 0, true, 2, 0, 0, [], [], unitEnv R tv⟩
theorem begU_var (R : List Rg) (tv : Option Value) (xs : List Int) (k : Nat) : (begU R tv xs k).var k (nth xs k) = begU R tv xs (k + 1) := by
  unfold St.var begU
  congr 1
  funext i
  unfold upd
  by_cases h : i = k
  · rw [if_pos h, if_pos (by omega), h]
  · rw [if_neg h]
    show (if i < k then _ else _) = _
    by_cases h2 : i < k
    · rw [if_pos h2, if_pos (by omega)]
    · rw [if_neg h2, if_neg (by omega)]
theorem begU_end (R : List Rg) (tv : Option Value) (xs : List Int) : begU R tv xs xs.length = stU R tv xs := by
  unfold begU stU
  congr 1
  funext i
  by_cases h : i < xs.length
  · rw [if_pos h]
  · rw [if_neg h, nth_past xs (by omega)]
theorem agg_b81 (R : List Rg) (tv : Value) (xs : List Int) : AggU (b81 tv) (begU R (some tv) xs 0) (.slice none 0 0) (.slice none 0 0) tv := by
  refine ⟨rfl, fun i hi => ?_, fun i hi => ?_, rfl, rfl, rfl, rfl, rfl, rfl, rfl, rfl⟩
  all_goals rcases (show i = 0 ∨ i = 1 ∨ i = 2 ∨ i = 3 ∨ i = 4 ∨ i = 5 ∨ i = 6 ∨ i = 7 ∨ i = 8 ∨ i = 9 ∨ i = 10 ∨ i = 11 ∨ i = 12 ∨ i = 13 ∨ i = 14 ∨ i = 15 by omega) with rfl | rfl | rfl | rfl | rfl | rfl | rfl | rfl | rfl | rfl | rfl | rfl | rfl | rfl | rfl | rfl <;> rfl

set_option maxRecDepth 100000 in
set_option maxHeartbeats 4000000 in
theorem machBegin_any (R : List Rg) (at_ : Option Addr) (ct : Nat) (xs : List Int) (ao : Option Addr) (cap : Nat) (w : World) (hH : HeldI w ao xs) (hl : xs.length ≤ 4) :
    Calls Tryd.prog 58 #[.slice ao xs.length cap, .slice at_ R.length ct] w fun e w' => ∃ cs, e = .returned (.agg cs) ∧ AggU cs (stU R (some (.slice at_ R.length ct)) xs) (.slice none 0 0) (.slice none 0 0) (.slice at_ R.length ct) ∧ Below w.heap.size w w' := by
  obtain ⟨n, hn⟩ : ∃ n, n = R.length := ⟨_, rfl⟩
  rw [← hn]
  have HN := hide hn
  have KB := hide codeBegin_any
  have HH := hide hH
  unfold b48 at KB
  clear hH hn
  go_enter Tryd.func58, Tryd.ntmps58
  go_wp2_with fail
  obtain ⟨w1, hw1⟩ : ∃ w1, w1 = w.alloc (.cells #[.int .i64 0, .int .i64 0, .int .i64 0, .int .i64 0, .int .i64 0, .int .i64 0, .int .i64 0, .int .i64 0, .int .i64 0, .int .i64 0, .int .i64 0, .int .i64 0, .int .i64 0, .int .i64 0, .int .i64 0, .int .i64 0, .int .i64 0, .bool false, .int .i64 0, .int .i64 0, .int .i64 0, .slice none 0 0, .slice none 0 0, .int .i64 0, .int .i64 0, .int .i64 0, .int .i64 0, .int .i64 0, .int .i64 0, .int .i64 0, .int .i64 0, .int .i64 0, .int .i64 0, .int .i64 0, .int .i64 0, .int .i64 0, .int .i64 0, .int .i64 0, .int .i64 0, .slice none 0 0] 97) := ⟨_, rfl⟩
  rw [← hw1]
  have HG1 : Hid (∃ cs, w1.heap[w.heap.size]? = some (.cells cs 97 (0, 0)) ∧ cs.size = 40) := by rw [hw1]; exact ⟨_, heap_alloc_new _ _, rfl⟩
  have hB1 : Below w.heap.size w w1 := by rw [hw1]; exact (Below.refl _ _).alloc (Nat.le_refl _) _
  have hz1 : w.heap.size < w1.heap.size := by rw [hw1]; simp
  clear hw1
  refine (unhide KB w1).mono ?_
  rintro e w2 ⟨rfl, hb2⟩
  have hz2 : w.heap.size < w2.heap.size := Nat.lt_of_lt_of_le hz1 hb2.size
  have HG2 : Hid (∃ cs, w2.heap[w.heap.size]? = some (.cells cs 97 (0, 0)) ∧ cs.size = 40) := by
    obtain ⟨cs, h1, h2⟩ := unhide HG1
    exact ⟨cs, (hb2.block w.heap.size hz1).trans h1, h2⟩
  have HB2 : Hid (Below w.heap.size w w2) := hB1.trans (hb2.mono (Nat.le_of_lt hz1))
  clear hb2 hB1 HG1 hz1
  go_wp2_with (refine wpList_store_row ?h1 97 ?h2 ?h3 ?h4 w2.heap.size ?h5 ?h6 ?h7 ?h8 ?h9 ?h10 ?h11 ?h12 ?h13 ?h14; case h4 => rfl)
  case h1 => rfl
  case h6 => rfl
  case h7 => rfl
  case h10 => exact heap_alloc_new _ _
  case h11 => exact Tryd.size97
  case h12 => rfl
  case h13 => kernel_rfl
  rw [World.setRow_alloc_new]
  obtain ⟨w3, hw3⟩ : ∃ w3, w3 = w2.alloc (.cells #[.int .i64 0, .int .i64 0, .int .i64 0, .int .i64 0, .int .i64 0, .int .i64 0, .int .i64 0, .int .i64 0, .int .i64 0, .int .i64 0, .int .i64 0, .int .i64 0, .int .i64 0, .int .i64 0, .int .i64 0, .int .i64 0, .int .i64 0, .bool true, .int .i64 2, .int .i64 0, .int .i64 0, .slice none 0 0, .slice none 0 0, .int .i64 0, .int .i64 0, .int .i64 0, .int .i64 0, .int .i64 0, .int .i64 0, .int .i64 0, .int .i64 0, .int .i64 0, .int .i64 0, .int .i64 0, .int .i64 0, .int .i64 0, .int .i64 0, .int .i64 0, .int .i64 0, .slice at_ n ct] 97) := ⟨_, rfl⟩
  rw [← hw3]
  have hg3 : w3.heap[w2.heap.size]? = some (.cells (b81 (.slice at_ n ct)) 97 (0, 0)) := by rw [hw3]; exact heap_alloc_new _ _
  have HS3 : Hid (StB w3 w2.heap.size (begU R (some (.slice at_ n ct)) xs 0) (.slice none 0 0) (.slice none 0 0)) := (agg_b81 R (.slice at_ n ct) xs).stb (R := R) rfl hg3
  have HG3 : Hid (∃ cs, w3.heap[w2.heap.size]? = some (.cells cs 97 (0, 0)) ∧ cs.size = 40) := ⟨_, hg3, rfl⟩
  have HR3 : Hid (∃ cs, w3.heap[w.heap.size]? = some (.cells cs 97 (0, 0)) ∧ cs.size = 40) := by
    obtain ⟨cs, h1, h2⟩ := unhide HG2
    exact ⟨cs, by rw [hw3]; exact (Below.heap_alloc _ _ _ hz2).trans h1, h2⟩
  have HB3 : Hid (Below w.heap.size w w3) := by rw [hw3]; exact (unhide HB2).alloc (Nat.le_of_lt hz2) _
  have hz3 : w2.heap.size < w3.heap.size := by rw [hw3]; simp
  clear hw3 hg3 HG2 HB2
  go_wp2_with fail
  go_loopw [6] (fun i wr => ∃ k : Nat, k ≤ xs.length ∧ i = .int .i64 k ∧ Hid (StB wr w2.heap.size (begU R (some (.slice at_ n ct)) xs k) (.slice none 0 0) (.slice none 0 0)) ∧ Hid (∃ cs, wr.heap[w2.heap.size]? = some (.cells cs 97 (0, 0)) ∧ cs.size = 40) ∧ Hid (Below w2.heap.size w3 wr)) (fun i _ => xs.length - (intOf i).toNat)
  case atStart => exact ⟨0, Nat.zero_le _, rfl, unhide HS3, unhide HG3, Below.refl _ _⟩
  case round =>
    obtain ⟨k, hk, rfl, HS, HG, HB⟩ := hrel
    by_cases hlt : k < xs.length
    · obtain ⟨b, off, rfl, hb, hc⟩ : ∃ b off, ao = some ⟨b, off, none⟩ ∧ b < w.heap.size ∧ ∀ i, i < xs.length → w.cell? ⟨b, off + i, none⟩ = some (.int .i64 (nth xs i)) := by
        rcases unhide HH with h | h
        · subst h; exact absurd hlt (by simp)
        · exact h
      have c : wr.cell? ⟨b, off + k, none⟩ = some (.int .i64 (nth xs k)) := ((unhide HB).cell (p := ⟨b, off + k, none⟩) (show b < w2.heap.size by omega)).trans (((unhide HB3).cell (p := ⟨b, off + k, none⟩) hb).trans (hc k hlt))
      have ck : wr.cell? ⟨w2.heap.size, 23 + k, none⟩ = some (.int .i64 ((begU R (some (.slice at_ n ct)) xs k).vars k)) := (unhide HS).2.1 k (show k < 16 by omega)
      have hf : ∀ o, wr.frozen? ⟨w2.heap.size, o, none⟩ = false := (unhide HS).2.2.2.2.2.2.2.2.2.1
      obtain ⟨y, hy⟩ : ∃ y, y = nth xs k := ⟨_, rfl⟩
      rw [← hy] at c
      have HY := hide hy
      have k16 : (k : Int) < 16 := by omega
      clear hc hy HS3 HG3
      go_wp2
      go_roundw
      case rel =>
        refine ⟨k + 1, by omega, by go_num, ?_, ?_, ((unhide HB).setCell (p := ⟨w2.heap.size, 23 + k, none⟩) (Nat.le_refl _) _)⟩
        · have := (unhide HS).set_var k (show k < 16 by omega) (nth xs k)
          rw [begU_var, ← unhide HY] at this
          exact this
        · obtain ⟨cs, h1, h2⟩ := unhide HG
          exact ⟨_, heap_setCell_same wr _ (23 + k) cs 97 _ h1, by rw [Array.size_setIfInBounds]; exact h2⟩
      case measure => simp [intOf]; omega
    · obtain rfl : k = xs.length := by omega
      obtain ⟨cs, hcs, hcn⟩ := unhide HG
      obtain ⟨zs, hzs, hzn⟩ := unhide HR3
      have hst := unhide HS
      rw [begU_end] at hst
      have HA := hide (AggU.of_stb (R := R) hst rfl hcs hcn)
      have HC := hide hcs
      have HZ := hide ((unhide HB).block w.heap.size hz2 |>.trans hzs)
      have HCN := hide hcn
      have HZN := hide hzn
      clear hcs hzs hcn hzn hst
      iterate 60 (first | (refine wpList_load_row rfl 97 _ rfl w2.heap.size rfl 97 cs (0, 0) _ (unhide HC) Tryd.underlying97 rfl (by rw [unhide HCN]; exact Tryd.size97) ?_; refine wpList_store_row rfl 97 _ _ rfl w.heap.size cs rfl rfl 97 zs (unhide HZ) (by rw [unhide HCN]; exact Tryd.size97) (by rw [unhide HZN, unhide HCN]) (unhide HA).plain ?_; clear HC) | go_values | go_skip | go_guarded | go_step | skip)
      go_wp2_with fail
      refine bodyPost_ret (results_cell_row rfl _ _ w.heap.size 97 cs (0, 0) _ rfl (setRow_heap wr w.heap.size zs _ 97 _ (unhide HZ)) Tryd.underlying97 rfl (by rw [unhide HCN]; exact Tryd.size97)) rfl ?_
      exact ⟨cs, rfl, unhide HA, below_setRow ((unhide HB3).trans ((unhide HB).mono (Nat.le_of_lt hz2))) (Nat.le_refl _) cs⟩
end Go.Proofs.YtoepcplbpochpaaDoor

/-
  What mach.Run answers: the error, or the result of the unit's run.
-/
namespace Go.Proofs.YtoepcplbpochpaaDoor
open Go.RowKit

/-- The table that bytes hold. -/
noncomputable def tabOf (T : ByteArray) : List Rg := @dite _ (∃ R, TabS T R) (Classical.propDecidable _) (fun h => Classical.choose h) (fun _ => [])
theorem tabOf_eq {T : ByteArray} {R : List Rg} (h : TabS T R) : tabOf T = R := by
  unfold tabOf
  rw [@dif_pos _ (Classical.propDecidable _) ⟨R, h⟩]
  exact tab_uniq (Classical.choose_spec (⟨R, h⟩ : ∃ R, TabS T R)) h

set_option maxRecDepth 100000 in
set_option maxHeartbeats 4000000 in
theorem machRun_any (K S P V : Int) (L : List In4) (T : ByteArray) (ac aa : Option Addr) (cc ca : Nat) (xs : List Int) (fuel : Int) (w : World) (hH : HeldIns w ac L) (hA : HeldI w aa xs) (hT : Tab w) (hw0 : 0 < w.heap.size) (hn : L.length ≤ 9223372036854775807) (hl : xs.length ≤ 9223372036854775807) (hs : T.size ≤ maxLen) :
    Calls Tryd.prog 23 #[.agg #[.int .i64 K, .int .i64 S, .int .i64 P, .int .i64 V, .slice ac L.length cc, .string T], .slice aa xs.length ca, .int .i64 fuel] w (RunPost w (runU K S P V L T (tabOf T) xs fuel)) := by
  obtain ⟨e1, he1⟩ : ∃ e, e = (unitE K S P V L T).1 := ⟨_, rfl⟩
  obtain ⟨e2, he2⟩ : ∃ e, e = (unitE K S P V L T).2 := ⟨_, rfl⟩
  obtain ⟨e3, he3⟩ : ∃ e, e = startE xs P fuel := ⟨_, rfl⟩
  have KC := hide (fun w (hH : HeldIns w ac L) (hT : Tab w) (hw0 : 0 < w.heap.size) => machCheck_any K S P V L T ac cc w hH hn hs hT hw0)
  have hsT := hs
  have KS := hide (fun w (hH : HeldI w aa xs) => start_any xs P fuel aa ca w hH hl)
  rw [← he1, ← he2] at KC
  rw [← he3] at KS
  have HE1 := hide he1
  have HE3 := hide he3
  have HH := hide hH
  have HA := hide hA
  have HT := hide hT
  clear he1 he2 he3 hH hA hT
  go_enter Tryd.func23, Tryd.ntmps23
  go_wp2_with fail
  obtain ⟨w1, hw1⟩ : ∃ w1, w1 = (w.alloc (.cells #[.int .i64 K, .int .i64 S, .int .i64 P, .int .i64 V, .slice ac L.length cc, .string T] 26)).alloc (.cells #[.int .i64 0, .int .i64 0, .int .i64 0, .slice none 0 0, .slice none 0 0] 37) := ⟨_, rfl⟩
  rw [← hw1]
  have hB1 : Below w.heap.size w w1 := by rw [hw1]; exact ((Below.refl _ _).alloc (Nat.le_refl _) _).alloc (by simp) _
  have hz1 : w1.heap.size = w.heap.size + 2 := by rw [hw1]; simp
  have p : ∀ i, w1.cell? ⟨w.heap.size, i, none⟩ = #[Value.int .i64 K, .int .i64 S, .int .i64 P, .int .i64 V, .slice ac L.length cc, .string T][i]? := fun i => by
    rw [hw1, World.cell?_alloc_past (hn := by simp), World.cell?_alloc_at (hn := rfl)]
  have h6 : At6 w1 w.heap.size K S P V (.slice ac L.length cc) T := ⟨(p 0).trans rfl, (p 1).trans rfl, (p 2).trans rfl, (p 3).trans rfl, (p 4).trans rfl, (p 5).trans rfl⟩
  have hr : w1.heap[w.heap.size + 1]? = some (.cells #[.int .i64 0, .int .i64 0, .int .i64 0, .slice none 0 0, .slice none 0 0] 37 (0, 0)) := by
    have hh := heap_alloc_new (w.alloc (.cells #[.int .i64 K, .int .i64 S, .int .i64 P, .int .i64 V, .slice ac L.length cc, .string T] 26)) (.cells #[.int .i64 0, .int .i64 0, .int .i64 0, .slice none 0 0, .slice none 0 0] 37)
    rw [show (w.alloc (.cells #[.int .i64 K, .int .i64 S, .int .i64 P, .int .i64 V, .slice ac L.length cc, .string T] 26)).heap.size = w.heap.size + 1 by simp] at hh
    rw [hw1]; exact hh
  clear hw1 p
  refine (unhide KC w1 ((unhide HH).below hB1) ((unhide HT).below hB1 hw0) (by omega)).mono ?_
  rintro e w2 ⟨rfl, hb2⟩
  have hB2 : Below w.heap.size w w2 := hB1.trans (hb2.mono (by omega))
  have h62 := h6.below hb2 (show w.heap.size < w1.heap.size by omega)
  have H62 := hide h62
  obtain ⟨q0, q1, q2, q3, q4, q5⟩ := h62
  have hr2 := (hb2.block (w.heap.size + 1) (by omega)).trans hr
  have hz2 : w.heap.size + 2 ≤ w2.heap.size := by have := hb2.size; omega
  have HR2 := hide hr2
  have HB2 := hide hB2
  have r0 : w2.cell? ⟨w.heap.size + 1, 0, none⟩ = some (.int .i64 0) := (cell_of_row w2 _ 0 _ 37 (0, 0) hr2).trans rfl
  have r1 : w2.cell? ⟨w.heap.size + 1, 1, none⟩ = some (.int .i64 0) := (cell_of_row w2 _ 1 _ 37 (0, 0) hr2).trans rfl
  have r2 : w2.cell? ⟨w.heap.size + 1, 2, none⟩ = some (.int .i64 0) := (cell_of_row w2 _ 2 _ 37 (0, 0) hr2).trans rfl
  have r3 : w2.cell? ⟨w.heap.size + 1, 3, none⟩ = some (.slice none 0 0) := (cell_of_row w2 _ 3 _ 37 (0, 0) hr2).trans rfl
  have r4 : w2.cell? ⟨w.heap.size + 1, 4, none⟩ = some (.slice none 0 0) := (cell_of_row w2 _ 4 _ 37 (0, 0) hr2).trans rfl
  have rf : ∀ o, w2.frozen? ⟨w.heap.size + 1, o, none⟩ = false := fun o => by simp [World.frozen?, hr2]
  clear hb2 h6 hr hr2 hB1 hz1 hB2 hs
  by_cases h1 : e1 = 0
  case neg =>
    have h1' : (e1 != 0) = true := by rw [bne_iff_ne]; exact h1
    have he := hide (show runU K S P V L T (tabOf T) xs fuel = (e1, zst) by unfold runU; rw [if_pos (by rw [← unhide HE1]; exact h1), ← unhide HE1])
    go_wp2_with fail
    refine bodyPost_ret (results_res rfl _ _ (w.heap.size + 1) _ rfl (set5 (unhide HR2) _ _ _ _ _) rfl) rfl ?_
    rw [unhide he]
    exact ⟨_, rfl, ResOf.zero _ _, below5 (unhide HB2) (Nat.le_succ _) _ _ _ _ _⟩
  subst h1
  obtain ⟨R, htR, hpR⟩ := rightU_of K S P V L T (unhide HE1).symm
  have HP := hide hpR
  have HTR := hide htR
  have htE := tabOf_eq htR
  clear htR hpR
  go_wp2_with fail
  refine (unhide KS w2 ((unhide HA).below (unhide HB2))).mono ?_
  rintro e w3 ⟨rfl, hw⟩
  rw [hw]
  clear hw w3
  by_cases h3 : e3 = 0
  case neg =>
    have h3' : (e3 != 0) = true := by rw [bne_iff_ne]; exact h3
    have he := hide (show runU K S P V L T (tabOf T) xs fuel = (e3, zst) by unfold runU; rw [if_neg (by rw [← unhide HE1]; exact fun h => h rfl), if_pos (by rw [← unhide HE3]; exact h3), ← unhide HE3])
    go_wp2_with fail
    refine bodyPost_ret (results_res rfl _ _ (w.heap.size + 1) _ rfl (set5 (unhide HR2) _ _ _ _ _) rfl) rfl ?_
    rw [unhide he]
    exact ⟨_, rfl, ResOf.zero _ _, below5 (unhide HB2) (Nat.le_succ _) _ _ _ _ _⟩
  subst h3
  have hsr := start_right (unhide HE3).symm
  have he := hide (show runU K S P V L T (tabOf T) xs fuel = (0, runSt L fuel.toNat (stU R none xs)) by unfold runU; rw [if_neg (by rw [← unhide HE1]; exact fun h => h rfl), if_neg (by rw [← unhide HE3]; exact fun h => h rfl), htE])
  have hx4 : xs.length ≤ 4 := by have := (unhide HP).p4; have := hsr.1; omega
  have f0 := hsr.2.2.1
  have f1 := hsr.2.2.2
  have KD := hide (fun w => decode_yes hsT (unhide HTR) w)
  have hF := hide (unhide HP).fit
  have HEE := hide (unhide HE3)
  clear hsr
  go_wp2_with fail
  refine (unhide KD w2).mono ?_
  rintro e wd ⟨tv, rfl, hod, hbd⟩
  obtain ⟨ta, tc, rfl, hHd, hlR, _, _⟩ := own_held hod
  have HK := hide (stU_ok (unhide HP) (some (.slice ta R.length tc)) (unhide HEE).symm)
  have KB := hide (fun w (hH : HeldI w aa xs) => machBegin_any R ta tc xs aa ca w hH hx4)
  have HBd : Hid (Below w.heap.size w wd) := (unhide HB2).trans (hbd.mono (by omega))
  have H6d := hide ((unhide H62).below hbd (by omega))
  have HRd := hide ((hbd.block (w.heap.size + 1) (by omega)).trans (unhide HR2))
  have HHd := hide hHd
  have hzd : w.heap.size + 2 ≤ wd.heap.size := by have := hbd.size; omega
  clear hod hbd hHd q0 q1 q2 q3 q4 q5 H62
  go_wp2_with fail
  refine (unhide KB wd ((unhide HA).below (unhide HBd))).mono ?_
  rintro e w3 ⟨cs, rfl, hcs, hb3⟩
  have HCS := hide hcs
  have HB3 : Hid (Below w.heap.size w w3) := (unhide HBd).trans (hb3.mono (by omega))
  have hz3 : w.heap.size + 2 ≤ w3.heap.size := by have := hb3.size; omega
  have hzd3 : wd.heap.size ≤ w3.heap.size := hb3.size
  have s4 := ((unhide H6d).below hb3 (by omega)).2.2.2.2.1
  have HR3 := hide ((hb3.block (w.heap.size + 1) (by omega)).trans (unhide HRd))
  have HH3 := hide ((unhide HHd).below hb3)
  clear hcs hb3 r0 r1 r2 r3 r4 rf HR2 HB2 HRd HHd HBd H6d
  go_wp2_with (refine wpList_store_row ?h1 97 ?h2 ?h3 ?h4 w3.heap.size ?h5 ?h6 ?h7 ?h8 ?h9 ?h10 ?h11 ?h12 ?h13 ?h14; case h4 => rfl)
  case h1 => rfl
  case h6 => rfl
  case h7 => rfl
  case h10 => exact heap_alloc_new _ _
  case h11 => rw [(unhide HCS).1]; exact Tryd.size97
  case h12 => rw [(unhide HCS).1]; rfl
  case h13 => exact (unhide HCS).plain
  rw [World.setRow_alloc_new]
  obtain ⟨w4, hw4⟩ : ∃ w4, w4 = w3.alloc (.cells cs 97) := ⟨_, rfl⟩
  rw [← hw4]
  have hg4 : w4.heap[w3.heap.size]? = some (.cells cs 97 (0, 0)) := by rw [hw4]; exact heap_alloc_new _ _
  have HI4 : Hid (Inv w4 w3.heap.size (stU R (some (.slice ta R.length tc)) xs) (.slice none 0 0) (.slice none 0 0)) := ⟨(unhide HCS).stb (R := R) rfl hg4, World.ownsRow_nil _ _ _ _, World.ownsRow_nil _ _ _ _⟩
  have HB4 : Hid (Below w.heap.size w w4) := by rw [hw4]; exact (unhide HB3).alloc (by omega) _
  have hz4 : w4.heap.size = w3.heap.size + 1 := by rw [hw4]; simp
  have t4 : w4.cell? ⟨w.heap.size, 4, none⟩ = some (.slice ac L.length cc) := by rw [hw4, World.cell?_alloc_past (hn := by omega)]; exact s4
  have HH4 : Hid (Held w4 ta R) := by rw [hw4]; exact (unhide HH3).below ((Below.refl _ _).alloc (Nat.le_refl _) _)
  have HL4 : Hid (∀ b off, ta = some ⟨b, off, none⟩ → R ≠ [] → b < w3.heap.size) := fun b off e hne => by
    rcases unhide HH3 with h | ⟨b', off', e', hb', _⟩
    · exact absurd h hne
    · rw [e] at e'; injection e' with e'; injection e' with e1; omega
  have HR4 : Hid (w4.heap[w.heap.size + 1]? = some (.cells #[.int .i64 0, .int .i64 0, .int .i64 0, .slice none 0 0, .slice none 0 0] 37 (0, 0))) := by rw [hw4]; exact (Below.heap_alloc _ _ _ (by omega)).trans (unhide HR3)
  clear hw4 hg4 s4 HR3 HB3 HH3
  obtain ⟨b, off, rfl, hb, HL⟩ : ∃ b off, ac = some ⟨b, off, none⟩ ∧ b < w.heap.size ∧ Hid (LieI w b off L) := by
    rcases unhide HH with h | h
    · have := (unhide HP).n1; rw [h] at this; exact absurd this (by decide)
    · exact h
  have hl1 := (unhide HP).n1
  have hl164 := (unhide HP).n164
  go_wp2_with fail
  simp only [Act.put]
  go_loopw [50] (fun _ wr => ∃ (s : St) (vo vs : Value), Hid (Inv wr w3.heap.size s vo vs) ∧ Hid (runSt L fuel.toNat (stU R (some (.slice ta R.length tc)) xs) = runSt L (fuel.toNat - s.steps) s) ∧ s.steps ≤ fuel.toNat ∧ Hid (StOkU L s) ∧ Hid (s.env = unitEnv R (some (.slice ta R.length tc))) ∧ Hid (Below w3.heap.size w4 wr)) (fun _ wr => fuel.toNat - stepsOf w3.heap.size wr)
  case atStart => exact ⟨stU R (some (.slice ta R.length tc)) xs, _, _, unhide HI4, rfl, Nat.zero_le _, unhide HK, rfl, Below.refl _ _⟩
  case round =>
    obtain ⟨s, vo, vs, HI, HC, hst, HO, HEV, HB⟩ := hrel
    have c16 : wr.cell? ⟨w3.heap.size, 16, none⟩ = some (.int .i64 (s.at_ : Int)) := (unhide HI).1.2.2.1
    have c17 : wr.cell? ⟨w3.heap.size, 17, none⟩ = some (.bool s.on) := (unhide HI).1.2.2.2.1
    have c18 : wr.cell? ⟨w3.heap.size, 18, none⟩ = some (.int .i64 s.kind) := (unhide HI).1.2.2.2.2.1
    have c19 : wr.cell? ⟨w3.heap.size, 19, none⟩ = some (.int .i64 s.val) := (unhide HI).1.2.2.2.2.2.1
    have c20 : wr.cell? ⟨w3.heap.size, 20, none⟩ = some (.int .i64 (s.steps : Int)) := (unhide HI).1.2.2.2.2.2.2.1
    have c21 : wr.cell? ⟨w3.heap.size, 21, none⟩ = some vo := (unhide HI).1.2.2.2.2.2.2.2.1
    have c22 : wr.cell? ⟨w3.heap.size, 22, none⟩ = some vs := (unhide HI).1.2.2.2.2.2.2.2.2.1
    have u4 := ((unhide HB).cell (p := ⟨w.heap.size, 4, none⟩) (show w.heap.size < w3.heap.size by omega)).trans t4
    have HBr : Hid (Below w.heap.size w wr) := (unhide HB4).trans ((unhide HB).mono (by omega))
    have hr := ((unhide HB).block (w.heap.size + 1) (by omega)).trans (unhide HR4)
    have HRr := hide hr
    have r0 : wr.cell? ⟨w.heap.size + 1, 0, none⟩ = some (.int .i64 0) := (cell_of_row wr _ 0 _ 37 (0, 0) hr).trans rfl
    have r1 : wr.cell? ⟨w.heap.size + 1, 1, none⟩ = some (.int .i64 0) := (cell_of_row wr _ 1 _ 37 (0, 0) hr).trans rfl
    have r2 : wr.cell? ⟨w.heap.size + 1, 2, none⟩ = some (.int .i64 0) := (cell_of_row wr _ 2 _ 37 (0, 0) hr).trans rfl
    have r3 : wr.cell? ⟨w.heap.size + 1, 3, none⟩ = some (.slice none 0 0) := (cell_of_row wr _ 3 _ 37 (0, 0) hr).trans rfl
    have r4 : wr.cell? ⟨w.heap.size + 1, 4, none⟩ = some (.slice none 0 0) := (cell_of_row wr _ 4 _ 37 (0, 0) hr).trans rfl
    have rf : ∀ o, wr.frozen? ⟨w.heap.size + 1, o, none⟩ = false := fun o => by simp [World.frozen?, hr]
    clear hr
    by_cases hgo : s.on = true ∧ s.steps < fuel.toNat
    · obtain ⟨hon, hlt⟩ := hgo
      have hlt' : (s.steps : Int) < fuel := by omega
      have hat := (unhide HO).at_ hon
      obtain ⟨x, hx⟩ : ∃ x, x = inAt L s.at_ := ⟨_, rfl⟩
      have hAx := (unhide HL s.at_ hat).below (unhide HBr) hb
      rw [← hx] at hAx
      obtain ⟨x0, x1, x2, x3⟩ := hAx
      have hso := stepU_ok (unhide HP) (unhide HO) hon
      have HHr : Held wr ta R := by
        rcases unhide HH4 with h | ⟨tb, toff, e, htb, hLt⟩
        · exact .inl h
        · rcases Classical.em (R = []) with h | h
          · exact .inl h
          · exact .inr ⟨tb, toff, e, Nat.lt_of_lt_of_le htb (unhide HB).size, hLt.below (unhide HB) (unhide HL4 tb toff e h)⟩
      have KT := hide (machStep_any w3.heap.size s vo vs x K L.length S R ta tc wr (unhide HI) (by rw [hx]; exact (unhide HP).ins s.at_ hat) (by rw [hx]; exact (unhide HP).low s.at_ hat) (unhide HEV) HHr (unhide hF) (unhide HP).tab (unhide HP).k16 (unhide HP).s16 (unhide HO).regs (unhide HO).vars (by omega) (by omega) (by have := (unhide HO).outs; omega) (by have := (unhide HO).stops; omega))
      have hn := hide (show runSt L fuel.toNat (stU R (some (.slice ta R.length tc)) xs) = runSt L (fuel.toNat - (stepSt x s).steps) (stepSt x s) by
        rw [unhide HC, run_on (by omega) hon, hx, hso.2.1, Nat.sub_sub])
      rw [← hx] at hso
      have HSO := hide hso
      have HX := hide hx
      rw [hon] at c17
      clear hso hx r0 r1 r2 r3 r4 rf c18 c19 c21 c22 hon HHr
      go_wp2_with fail
      refine (unhide KT).mono ?_
      rintro e w5 ⟨rfl, ⟨vo', vs', hI5⟩, hb5⟩
      have HI5 := hide hI5
      have HB5 := hide ((unhide HB).trans hb5)
      have h5 := (unhide HSO).2.1
      have hm := stepsOf_eq hI5.1
      have hm0 := stepsOf_eq (unhide HI).1
      have HM := hide hm
      have HM0 := hide hm0
      clear hI5 hb5 hm hm0 KT
      go_wp2_with fail
      go_roundw
      case rel => exact ⟨stepSt x s, vo', vs', unhide HI5, unhide hn, by omega, (unhide HSO).1, (unhide HSO).2.2.trans (unhide HEV), unhide HB5⟩
      case measure => rw [unhide HM, unhide HM0, h5]; omega
    · have hend0 : runSt L fuel.toNat (stU R (some (.slice ta R.length tc)) xs) = s := by
        rw [unhide HC]
        cases hon : s.on with
        | false => exact run_off _ _ _ hon
        | true =>
          rw [show fuel.toNat - s.steps = 0 by
            rcases Nat.lt_or_ge s.steps fuel.toNat with h | h
            · exact absurd ⟨hon, h⟩ hgo
            · omega]
          rfl
      have hend := hide (show runSt L fuel.toNat (stU R none xs) = s.plain by rw [← stU_plain R (some (.slice ta R.length tc)) xs, ← run_plain, hend0])
      clear hend0
      have HOo := hide (unhide HI).2.1
      have HOs := hide (unhide HI).2.2
      have hcase : s.on = false ∨ (s.on = true ∧ fuel ≤ (s.steps : Int)) := by
        cases hon : s.on with
        | false => exact .inl rfl
        | true => exact .inr ⟨rfl, by
            rcases Nat.lt_or_ge s.steps fuel.toNat with h | h
            · exact absurd ⟨hon, h⟩ hgo
            · omega⟩
      clear hgo
      obtain ⟨ao, no, co, rfl⟩ := own_slice (unhide HOo)
      obtain ⟨az, ns, cz, rfl⟩ := own_slice (unhide HOs)
      rcases hcase with hon | ⟨hon, hf⟩
      all_goals
        rw [hon] at c17
        clear hon
        go_wp2_with fail
        refine bodyPost_ret (results_res rfl _ _ (w.heap.size + 1) _ rfl (set5 (unhide HRr) _ _ _ _ _) rfl) rfl ?_
        rw [unhide he, unhide hend]
        exact ⟨_, rfl, ⟨_, _, rfl, own_weaken (own5 (unhide HOo) (by omega) _ _ _ _ _) (by omega), own_weaken (own5 (unhide HOs) (by omega) _ _ _ _ _) (by omega)⟩, below5 (unhide HBr) (Nat.le_succ _) _ _ _ _ _⟩
end Go.Proofs.YtoepcplbpochpaaDoor

/-
  Right instructions out of raw ones.
-/
namespace Go.Proofs.YtoepcplbpochpaaDoor
open Go.RowKit

/-- Which of n things the raw number c speaks of. -/
def pickI (c n : Int) : Int := (if c < 0 then -(c + 1) else c) % n
theorem pick_lt (c n : Int) (h : 0 < n) : 0 ≤ pickI c n ∧ pickI c n < n := ⟨Int.emod_nonneg _ (by omega), Int.emod_lt_of_pos _ h⟩
theorem pick_self {c n : Int} (h : 0 ≤ c) (h' : c < n) : pickI c n = c := by unfold pickI; rw [if_neg (by omega)]; exact Int.emod_eq_of_lt h h'
/-- The Op of a right instruction. -/
def opF (x : In4) (V : Int) : Int := if V = 0 ∧ 12 ≤ pickI x.op 15 then 11 else pickI x.op 15
/-- A right instruction out of a raw one. -/
def insF (x : In4) (R n V : Int) : In4 :=
  if opF x V = 0 then ⟨0, pickI x.d R, pickI x.a 65536, 0⟩ else
  if opF x V = 1 then ⟨1, pickI x.d R, pickI x.a R, 0⟩ else
  if opF x V = 7 then ⟨7, 0, pickI x.a n, 0⟩ else
  if opF x V = 8 then ⟨8, 0, pickI x.a R, pickI x.b n⟩ else
  if opF x V = 9 ∨ opF x V = 10 then ⟨opF x V, 0, pickI x.a R, 0⟩ else
  if opF x V = 11 then ⟨11, 0, pickI x.a 100, 0⟩ else
  if opF x V = 12 then ⟨12, pickI x.d V, pickI x.a R, 0⟩ else
  if opF x V = 13 then ⟨13, pickI x.d V, pickI x.a 65536, 0⟩ else
  if opF x V = 14 then ⟨14, pickI x.d V, 0, 0⟩ else ⟨opF x V, pickI x.d R, pickI x.a R, pickI x.b R⟩
/-- A number of 64 bits. -/
def Rng (c : Int) : Prop := -9223372036854775808 ≤ c ∧ c ≤ 9223372036854775807
def RngI (L : List In4) : Prop := ∀ i, i < L.length → Rng (inAt L i).op ∧ Rng (inAt L i).d ∧ Rng (inAt L i).a ∧ Rng (inAt L i).b
/-- Args out of raw numbers. -/
def fitV (raw : List Int) (k : Nat) : Int := if raw.length = 0 then 0 else pickI (nth raw (k % raw.length)) 65536
def fitTo (raw : List Int) : Nat → List Int
  | 0 => []
  | k + 1 => fitTo raw k ++ [fitV raw k]
theorem fitTo_len (raw : List Int) : ∀ k, (fitTo raw k).length = k
  | 0 => rfl
  | k + 1 => by show (fitTo raw k ++ [_]).length = _; rw [List.length_append, fitTo_len raw k]; rfl
theorem fitV_ok (raw : List Int) (k : Nat) : 0 ≤ fitV raw k ∧ fitV raw k ≤ 65535 := by
  unfold fitV
  split
  · omega
  · have := pick_lt (nth raw (k % raw.length)) 65536 (by decide); omega
theorem fitTo_ok (raw : List Int) : ∀ k i, 0 ≤ nth (fitTo raw k) i ∧ nth (fitTo raw k) i ≤ 65535
  | 0, i => by
    have e : nth (fitTo raw 0) i = 0 := by show nth [] i = 0; unfold nth; simp
    rw [e]; omega
  | k + 1, i => by
    have hl := fitTo_len raw k
    show 0 ≤ nth (fitTo raw k ++ [fitV raw k]) i ∧ nth (fitTo raw k ++ [fitV raw k]) i ≤ 65535
    by_cases h : i < k
    · have e : nth (fitTo raw k ++ [fitV raw k]) i = nth (fitTo raw k) i := by unfold nth; rw [List.getD_eq_getElem?_getD, List.getD_eq_getElem?_getD, List.getElem?_append_left (by omega)]
      rw [e]; exact fitTo_ok raw k i
    · by_cases h' : i = k
      · have e : nth (fitTo raw k ++ [fitV raw k]) i = fitV raw k := by unfold nth; rw [List.getD_eq_getElem?_getD, List.getElem?_append_right (by omega), hl, h', Nat.sub_self]; rfl
        rw [e]; exact fitV_ok raw k
      · have e : nth (fitTo raw k ++ [fitV raw k]) i = 0 := by unfold nth; rw [List.getD_eq_getElem?_getD, List.getElem?_eq_none (by rw [List.length_append, hl]; show k + 1 ≤ i; omega)]; rfl
        rw [e]; omega
end Go.Proofs.YtoepcplbpochpaaDoor
