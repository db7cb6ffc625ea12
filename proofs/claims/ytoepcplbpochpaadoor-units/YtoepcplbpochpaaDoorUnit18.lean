/-
  One step of the program's run: (*ir.run).step.
-/
import Derived.Test.YtoepcplbpochpaaDoorUnit17

namespace Go.Proofs.YtoepcplbpochpaaDoor
open Go.RowKit

/-- What a step leaves behind. -/
def StepPost (w : World) (B : Nat) (s' : St) (e : Ending) (w' : World) : Prop :=
  e = .returned (.tuple #[]) ∧ (∃ vo' vs', Inv w' B s' vo' vs') ∧ Below B w w'
theorem StepPost.of {w w2 w' : World} {B : Nat} {s s' : St} {vo vs : Value} {e : Ending} (h : DoPost w2 B s' vo vs e w') (hI : Inv w2 B s vo vs) (hb : Below B w w2) : StepPost w B s' e w' :=
  ⟨h.1, h.2.1.elim (fun vo' h => ⟨vo', vs, h⟩), hb.trans (h.2.2.below (Nat.le_of_lt hI.1.lt) (fun k hk e => e.elim (fun e => by omega) (fun e => by have := (own_in hI.2.1 k e.symm).1; omega)))⟩
theorem StepPost.drew {w w' : World} {B : Nat} {s : St} {e : Ending} (h : StepPost w B s e w') : StepPost w B s e w'.drew := by
  obtain ⟨h1, ⟨vo', vs', h2, h3, h4⟩, h5⟩ := h
  exact ⟨h1, ⟨vo', vs', h2.drew, h3.drew, h4.drew⟩, h5.drew⟩
theorem Inv.drew {w : World} {B : Nat} {s : St} {vo vs : Value} (h : Inv w B s vo vs) : Inv w.drew B s vo vs := ⟨h.1.drew, h.2.1.drew, h.2.2.drew⟩
theorem Inv.keep {w w' : World} {B : Nat} {s : St} {vo vs : Value} (h : Inv w B s vo vs) (hk : Keep (fun _ => False) w w') : Inv w' B s vo vs :=
  ⟨h.1.of_block (hk.block B h.1.lt (fun h => h)), own_keep h.2.1 hk (fun _ _ h => h), own_keep h.2.2 hk (fun _ _ h => h)⟩

/-- The world behind the boxing of the instruction. -/
theorem step_open {w : World} {B : Nat} {s : St} {vo vs : Value} (op d a b : Int) (h : Inv w B s vo vs) :
    ∃ w2, w2 = w.alloc (.cells #[.int .i64 op, .int .i64 d, .int .i64 a, .int .i64 b] 77) ∧ Hid (Inv w2 B s vo vs) ∧ Hid (Keep (fun k => k = B) w w2) ∧
      w2.cell? ⟨w.heap.size, 0, none⟩ = some (.int .i64 op) ∧ w2.cell? ⟨w.heap.size, 1, none⟩ = some (.int .i64 d) ∧ w2.cell? ⟨w.heap.size, 2, none⟩ = some (.int .i64 a) ∧ w2.cell? ⟨w.heap.size, 3, none⟩ = some (.int .i64 b) ∧
      w.heap.size < w2.heap.size ∧ (∀ o, w2.frozen? ⟨B, o, none⟩ = false) := by
  have hi := h.keep ((Keep.refl _ w).alloc (.cells #[.int .i64 op, .int .i64 d, .int .i64 a, .int .i64 b] 77))
  have q : ∀ i, (w.alloc (.cells #[.int .i64 op, .int .i64 d, .int .i64 a, .int .i64 b] 77)).cell? ⟨w.heap.size, i, none⟩ = #[Value.int .i64 op, .int .i64 d, .int .i64 a, .int .i64 b][i]? := fun i => World.cell?_alloc_at (hn := rfl) ..
  exact ⟨_, rfl, hi, (Keep.refl _ _).alloc _, (q 0).trans rfl, (q 1).trans rfl, (q 2).trans rfl, (q 3).trans rfl, by simp, hi.1.2.2.2.2.2.2.2.2.2.1⟩

theorem pre_eq (x : In4) (s : St) (h : x.op ≤ 10) : preSt x s = s := by
  unfold preSt; rw [if_neg (by omega), if_neg (by omega), if_neg (by omega), if_neg (by omega), if_neg (by omega), if_neg (by omega)]

set_option maxRecDepth 100000 in
set_option maxHeartbeats 8000000 in
theorem step_any (B : Nat) (s : St) (vo vs : Value) (x : In4) (R n V : Int) (w : World) (h : Inv w B s vo vs) (hx : Right R n V x) (hp : x.op ≤ 14) (hE : s.env = progEnv) (hR : R ≤ 12) (hV : V ≤ 4)
    (hv : ∀ i, i < 16 → 0 ≤ s.regs i ∧ s.regs i ≤ 65535) (hat : s.at_ ≤ 1000) (hst : s.steps ≤ 100000) (hol : s.outs.length ≤ 100000) (hsl : s.stops.length ≤ 100000) :
    Calls Tryd.prog 50 #[.pointer (some ⟨B, 0, none⟩), .agg #[.int .i64 x.op, .int .i64 x.d, .int .i64 x.a, .int .i64 x.b]] w (StepPost w B (stepSt x s)) := by
  have hB := h.1.lt
  have KD := hide (fun (s' : St) (vo' vs' : Value) (w' : World) (h' : Inv w' B s' vo' vs') (hr : s'.regs = s.regs) (ha : s'.at_ = s.at_) (hst' : s'.steps = s.steps) (ho : s'.outs = s.outs) => do_any B s' vo' vs' x R n V w' h' hx (by omega) (by rw [hr]; exact hv) (by rw [ha]; exact hat) (by rw [hst']; exact hst) (by rw [ho]; exact hol))
  obtain ⟨w2, hw2, HI2, HK2, q0, q1, q2, q3, hz2, hf2⟩ := step_open x.op x.d x.a x.b h
  have HW := hide hw2
  have hB2 : B < w2.heap.size := (unhide HI2).1.lt
  have HBel : Hid (Below B w w2) := (unhide HK2).below (Nat.le_of_lt hB) (fun k hk e => by omega)
  have HI := hide h
  have HX := hide hx
  have hne : w.heap.size ≠ B := by omega
  have hk : ∀ (wq : World) (j o : Nat) (z : Value), (wq.setCell ⟨B, j, none⟩ z).cell? ⟨w.heap.size, o, none⟩ = wq.cell? ⟨w.heap.size, o, none⟩ := fun wq j o z => World.cell?_setCell_other _ _ _ _ (fun e => by injection e with e1; omega)
  clear h hx hv hw2
  have o0 : 0 ≤ x.op := (unhide HX).1
  have o1 := hp
  have hnv : s.env.nv = 4 := by rw [hE]; rfl
  have HEV : Hid (∀ v, s.vars v = s.tell v) := fun v => by unfold St.tell; rw [hE]; rfl
  clear hp hE
  have HN : Hid (some w.heap.size ≠ vo.ownBlock) := fun e => by have := (own_in (unhide HI).2.1 _ e.symm).2; omega
  obtain ⟨op, d, a, b⟩ := x
  simp only at *
  rcases (show op ≤ 10 ∨ op = 11 ∨ op = 12 ∨ op = 13 ∨ op = 14 by omega) with ho | rfl | rfl | rfl | rfl
  · have HP0 := hide (pre_eq ⟨op, d, a, b⟩ s ho)
    have HBl := HBel
    have h11 : (op == 11) = false := by rw [beq_eq_false_iff_ne]; omega
    have h12 : (op == 12) = false := by rw [beq_eq_false_iff_ne]; omega
    have h13 : (op == 13) = false := by rw [beq_eq_false_iff_ne]; omega
    have h14 : (op == 14) = false := by rw [beq_eq_false_iff_ne]; omega
    go_enter Tryd.func50, Tryd.ntmps50
    go_wp2_with fail
    rw [← unhide HW]
    go_wp2_with fail
    go_region_held3 (fun w' => w'.cell? ⟨w.heap.size, 0, none⟩ = some (.int .i64 op) ∧ w'.cell? ⟨w.heap.size, 1, none⟩ = some (.int .i64 d) ∧ w'.cell? ⟨w.heap.size, 2, none⟩ = some (.int .i64 a) ∧ w'.cell? ⟨w.heap.size, 3, none⟩ = some (.int .i64 b)) (first | (simp [*]; done) | assumption)
      ((go_at_call 86; refine (unhide KD s vo vs _ ?_ rfl rfl rfl rfl).mono ?_; exact (unhide HI2).drew; intro e w5 hD; have hbl := hD.2.2.block w.heap.size hz2 (fun h => h.elim hne (unhide HN)); have r0 := (World.cell?_of_block hbl).trans q0; have r1 := (World.cell?_of_block hbl).trans q1; have r2 := (World.cell?_of_block hbl).trans q2; have r3 := (World.cell?_of_block hbl).trans q3; have HP := hide (StepPost.of hD (unhide HI2).drew (unhide HBl).drew); obtain ⟨rfl, _, _⟩ := hD; clear hbl))
    go_wp2_with fail
    go_returns
    have hP := unhide HP
    unfold stepSt
    rw [unhide HP0]
    exact hP
  -- Stop
  · obtain ⟨v0, e0⟩ : ∃ v, s.tell 0 = v := ⟨_, rfl⟩
    obtain ⟨v1, e1⟩ : ∃ v, s.tell 1 = v := ⟨_, rfl⟩
    obtain ⟨v2, e2⟩ : ∃ v, s.tell 2 = v := ⟨_, rfl⟩
    obtain ⟨v3, e3⟩ : ∃ v, s.tell 3 = v := ⟨_, rfl⟩
    have c0 : w2.cell? ⟨B, 23, none⟩ = some (.int .i64 v0) := by rw [← e0, ← unhide HEV]; exact (unhide HI2).1.2.1 0 (by omega)
    have c1 : w2.cell? ⟨B, 24, none⟩ = some (.int .i64 v1) := by rw [← e1, ← unhide HEV]; exact (unhide HI2).1.2.1 1 (by omega)
    have c2 : w2.cell? ⟨B, 25, none⟩ = some (.int .i64 v2) := by rw [← e2, ← unhide HEV]; exact (unhide HI2).1.2.1 2 (by omega)
    have c3 : w2.cell? ⟨B, 26, none⟩ = some (.int .i64 v3) := by rw [← e3, ← unhide HEV]; exact (unhide HI2).1.2.1 3 (by omega)
    have KS := hide (fun w' (h : Inv w' B s vo vs) => see_any B s vo vs a v0 v1 v2 v3 w' h e0 e1 e2 e3 hsl)
    have HNs : Hid (some w.heap.size ≠ vs.ownBlock) := fun e => by have := (own_in (unhide HI).2.2 _ e.symm).2; omega
    have HNb : Hid (∀ k, k < B → ¬ (k = B ∨ some k = vs.ownBlock)) := fun k hk e => e.elim (fun e => by omega) (fun e => by have := (own_in (unhide HI2).2.2 k e.symm).1; omega)
    have HE := hide (And.intro e0 (And.intro e1 (And.intro e2 e3)))
    clear e0 e1 e2 e3
    go_enter Tryd.func50, Tryd.ntmps50
    go_wp2_with fail
    rw [← unhide HW]
    go_region_held3 (fun w' => w'.cell? ⟨w.heap.size, 2, none⟩ = some (.int .i64 a) ∧ w'.cell? ⟨B, 23, none⟩ = some (.int .i64 v0) ∧ w'.cell? ⟨B, 24, none⟩ = some (.int .i64 v1) ∧ w'.cell? ⟨B, 25, none⟩ = some (.int .i64 v2) ∧ w'.cell? ⟨B, 26, none⟩ = some (.int .i64 v3)) (first | (simp [*]; done) | assumption)
      ((go_at_call 85; refine (unhide KS _ ?_).mono ?_; exact (unhide HI2).drew; intro e w4 hD; obtain ⟨rfl, ⟨vs4, hI4⟩, hK4⟩ := hD; have hbl := hK4.block w.heap.size hz2 (fun h => h.elim hne (unhide HNs)); have p0 := (World.cell?_of_block hbl).trans q0; have p1 := (World.cell?_of_block hbl).trans q1; have p2 := (World.cell?_of_block hbl).trans q2; have p3 := (World.cell?_of_block hbl).trans q3; have d0 : w4.cell? ⟨B, 23, none⟩ = some (.int .i64 v0) := (by rw [← (unhide HE).1, ← unhide HEV]; exact hI4.1.2.1 0 (show 0 < s.env.nv by omega)); have d1 : w4.cell? ⟨B, 24, none⟩ = some (.int .i64 v1) := (by rw [← (unhide HE).2.1, ← unhide HEV]; exact hI4.1.2.1 1 (show 1 < s.env.nv by omega)); have d2 : w4.cell? ⟨B, 25, none⟩ = some (.int .i64 v2) := (by rw [← (unhide HE).2.2.1, ← unhide HEV]; exact hI4.1.2.1 2 (show 2 < s.env.nv by omega)); have d3 : w4.cell? ⟨B, 26, none⟩ = some (.int .i64 v3) := (by rw [← (unhide HE).2.2.2, ← unhide HEV]; exact hI4.1.2.1 3 (show 3 < s.env.nv by omega)); have HI4 := hide hI4; have HK4 := hide hK4; clear hbl hI4 hK4))
    have HBl : Hid (Below B w w4) := (unhide HBel).drew.trans ((unhide HK4).below (Nat.le_of_lt hB2) (unhide HNb))
    have hz4 : w.heap.size < w4.heap.size := Nat.lt_of_lt_of_le hz2 (unhide HK4).size
    clear HK4 q0 q1 q2 q3 c0 c1 c2 c3
    go_wp2_with fail
    go_region_held3 (fun w' => w'.cell? ⟨w.heap.size, 0, none⟩ = some (.int .i64 11) ∧ w'.cell? ⟨w.heap.size, 1, none⟩ = some (.int .i64 d) ∧ w'.cell? ⟨w.heap.size, 2, none⟩ = some (.int .i64 a) ∧ w'.cell? ⟨w.heap.size, 3, none⟩ = some (.int .i64 b)) (first | (simp [*]; done) | assumption)
      ((go_at_call 86; refine (unhide KD (s.see a) vo vs4 _ ?_ rfl rfl rfl rfl).mono ?_; exact (unhide HI4).drew; intro e w5 hD; have hbl := hD.2.2.block w.heap.size hz4 (fun h => h.elim hne (unhide HN)); have r0 := (World.cell?_of_block hbl).trans p0; have r1 := (World.cell?_of_block hbl).trans p1; have r2 := (World.cell?_of_block hbl).trans p2; have r3 := (World.cell?_of_block hbl).trans p3; have HP := hide (StepPost.of hD (unhide HI4).drew (unhide HBl).drew); obtain ⟨rfl, _, _⟩ := hD; clear hbl))
    go_wp2_with fail
    go_returns
    have hP := unhide HP
    exact hP
  · obtain ⟨d0, d1⟩ := (unhide HX).2.2.2.2.2.2.2.2.2.1 (show (12 : Int) ≤ 12 ∧ (12 : Int) ≤ 14 by decide)
    simp only at d0 d1
    obtain ⟨dn, rfl⟩ : ∃ dn : Nat, d = dn := ⟨d.toNat, by omega⟩
    have d2 : (dn : Int) < 4 := by omega
    have cd : w2.cell? ⟨B, 23 + dn, none⟩ = some (.int .i64 (s.vars dn)) := (unhide HI2).1.2.1 dn (by omega)
    obtain ⟨a0, a1⟩ := (unhide HX).2.2.2.1 (.inr (.inr (.inr (.inr (.inr rfl)))))
    simp only at a0 a1
    obtain ⟨an, rfl⟩ : ∃ an : Nat, a = an := ⟨a.toNat, by omega⟩
    have a2 : (an : Int) < 16 := by omega
    obtain ⟨y, hy⟩ : ∃ y, y = s.regs an := ⟨_, rfl⟩
    have ca : w2.cell? ⟨B, an, none⟩ = some (.int .i64 y) := by rw [hy]; exact (unhide HI2).1.1 an (by omega)
    have HY := hide hy
    have hkc : ∀ (wq : World) (z : Value), (wq.setCell ⟨B, 23 + dn, none⟩ z).cell? ⟨B, an, none⟩ = wq.cell? ⟨B, an, none⟩ := fun wq z => World.cell?_setCell_other _ _ _ _ (fun e => by injection e with e1 e2; omega)
    clear hy
    go_enter Tryd.func50, Tryd.ntmps50
    go_wp2_with fail
    rw [← unhide HW]
    go_region_held3 (fun w' => w'.cell? ⟨w.heap.size, 1, none⟩ = some (.int .i64 (dn : Int)) ∧ w'.cell? ⟨w.heap.size, 2, none⟩ = some (.int .i64 (an : Int)) ∧ w'.cell? ⟨B, an, none⟩ = some (.int .i64 y)) (simp [*]) (fail)
    obtain ⟨w4, hw4⟩ : ∃ w4, w4 = (w2.setCell ⟨B, 23 + dn, none⟩ (.int .i64 y)).drew := ⟨_, rfl⟩
    rw [← hw4]
    have HI4 : Hid (Inv w4 B (s.var dn y) vo vs) := by
      rw [hw4]; exact ((unhide HI2).turn ((unhide HI2).1.set_var dn (by omega) _) (keep_set (Keep.refl _ _) _ _) rfl rfl).drew
    have HBl : Hid (Below B w w4) := by rw [hw4]; exact ((unhide HBel).setCell (p := ⟨B, 23 + dn, none⟩) (Nat.le_refl _) _).drew
    have hz4 : w.heap.size < w4.heap.size := by rw [hw4]; simp; exact hz2
    have p0 : w4.cell? ⟨w.heap.size, 0, none⟩ = some (.int .i64 12) := by rw [hw4]; exact (hk _ _ _ _).trans q0
    have p1 : w4.cell? ⟨w.heap.size, 1, none⟩ = some (.int .i64 (dn : Int)) := by rw [hw4]; exact (hk _ _ _ _).trans q1
    have p2 : w4.cell? ⟨w.heap.size, 2, none⟩ = some (.int .i64 (an : Int)) := by rw [hw4]; exact (hk _ _ _ _).trans q2
    have p3 : w4.cell? ⟨w.heap.size, 3, none⟩ = some (.int .i64 b) := by rw [hw4]; exact (hk _ _ _ _).trans q3
    clear hw4 q0 q1 q2 q3 cd ca
    go_wp2_with fail
    go_region_held3 (fun w' => w'.cell? ⟨w.heap.size, 0, none⟩ = some (.int .i64 12) ∧ w'.cell? ⟨w.heap.size, 1, none⟩ = some (.int .i64 (dn : Int)) ∧ w'.cell? ⟨w.heap.size, 2, none⟩ = some (.int .i64 (an : Int)) ∧ w'.cell? ⟨w.heap.size, 3, none⟩ = some (.int .i64 b)) (first | (simp [*]; done) | assumption)
      ((go_at_call 86; refine (unhide KD (s.var dn y) vo vs _ ?_ rfl rfl rfl rfl).mono ?_; exact (unhide HI4).drew; intro e w5 hD; have hbl := hD.2.2.block w.heap.size hz4 (fun h => h.elim hne (unhide HN)); have r0 := (World.cell?_of_block hbl).trans p0; have r1 := (World.cell?_of_block hbl).trans p1; have r2 := (World.cell?_of_block hbl).trans p2; have r3 := (World.cell?_of_block hbl).trans p3; have HP := hide (StepPost.of hD (unhide HI4).drew (unhide HBl).drew); obtain ⟨rfl, _, _⟩ := hD; clear hbl))
    go_wp2_with fail
    go_returns
    have hP := unhide HP
    rw [unhide HY] at hP
    exact hP
  · obtain ⟨d0, d1⟩ := (unhide HX).2.2.2.2.2.2.2.2.2.1 (show (12 : Int) ≤ 13 ∧ (13 : Int) ≤ 14 by decide)
    simp only at d0 d1
    obtain ⟨dn, rfl⟩ : ∃ dn : Nat, d = dn := ⟨d.toNat, by omega⟩
    have d2 : (dn : Int) < 4 := by omega
    have cd : w2.cell? ⟨B, 23 + dn, none⟩ = some (.int .i64 (s.vars dn)) := (unhide HI2).1.2.1 dn (by omega)
    go_enter Tryd.func50, Tryd.ntmps50
    go_wp2_with fail
    rw [← unhide HW]
    go_region_held3 (fun w' => w'.cell? ⟨w.heap.size, 1, none⟩ = some (.int .i64 (dn : Int)) ∧ w'.cell? ⟨w.heap.size, 2, none⟩ = some (.int .i64 a)) (simp [*]) (fail)
    obtain ⟨w4, hw4⟩ : ∃ w4, w4 = (w2.setCell ⟨B, 23 + dn, none⟩ (.int .i64 a)).drew := ⟨_, rfl⟩
    rw [← hw4]
    have HI4 : Hid (Inv w4 B (s.var dn a) vo vs) := by
      rw [hw4]; exact ((unhide HI2).turn ((unhide HI2).1.set_var dn (by omega) _) (keep_set (Keep.refl _ _) _ _) rfl rfl).drew
    have HBl : Hid (Below B w w4) := by rw [hw4]; exact ((unhide HBel).setCell (p := ⟨B, 23 + dn, none⟩) (Nat.le_refl _) _).drew
    have hz4 : w.heap.size < w4.heap.size := by rw [hw4]; simp; exact hz2
    have p0 : w4.cell? ⟨w.heap.size, 0, none⟩ = some (.int .i64 13) := by rw [hw4]; exact (hk _ _ _ _).trans q0
    have p1 : w4.cell? ⟨w.heap.size, 1, none⟩ = some (.int .i64 (dn : Int)) := by rw [hw4]; exact (hk _ _ _ _).trans q1
    have p2 : w4.cell? ⟨w.heap.size, 2, none⟩ = some (.int .i64 a) := by rw [hw4]; exact (hk _ _ _ _).trans q2
    have p3 : w4.cell? ⟨w.heap.size, 3, none⟩ = some (.int .i64 b) := by rw [hw4]; exact (hk _ _ _ _).trans q3
    clear hw4 q0 q1 q2 q3 cd
    go_wp2_with fail
    go_region_held3 (fun w' => w'.cell? ⟨w.heap.size, 0, none⟩ = some (.int .i64 13) ∧ w'.cell? ⟨w.heap.size, 1, none⟩ = some (.int .i64 (dn : Int)) ∧ w'.cell? ⟨w.heap.size, 2, none⟩ = some (.int .i64 a) ∧ w'.cell? ⟨w.heap.size, 3, none⟩ = some (.int .i64 b)) (first | (simp [*]; done) | assumption)
      ((go_at_call 86; refine (unhide KD (s.var dn a) vo vs _ ?_ rfl rfl rfl rfl).mono ?_; exact (unhide HI4).drew; intro e w5 hD; have hbl := hD.2.2.block w.heap.size hz4 (fun h => h.elim hne (unhide HN)); have r0 := (World.cell?_of_block hbl).trans p0; have r1 := (World.cell?_of_block hbl).trans p1; have r2 := (World.cell?_of_block hbl).trans p2; have r3 := (World.cell?_of_block hbl).trans p3; have HP := hide (StepPost.of hD (unhide HI4).drew (unhide HBl).drew); obtain ⟨rfl, _, _⟩ := hD; clear hbl))
    go_wp2_with fail
    go_returns
    have hP := unhide HP
    exact hP
  · obtain ⟨d0, d1⟩ := (unhide HX).2.2.2.2.2.2.2.2.2.1 (show (12 : Int) ≤ 14 ∧ (14 : Int) ≤ 14 by decide)
    simp only at d0 d1
    obtain ⟨dn, rfl⟩ : ∃ dn : Nat, d = dn := ⟨d.toNat, by omega⟩
    have d2 : (dn : Int) < 4 := by omega
    have cd : w2.cell? ⟨B, 23 + dn, none⟩ = some (.int .i64 (s.vars dn)) := (unhide HI2).1.2.1 dn (by omega)
    go_enter Tryd.func50, Tryd.ntmps50
    go_wp2_with fail
    rw [← unhide HW]
    go_region_held3 (fun w' => w'.cell? ⟨w.heap.size, 1, none⟩ = some (.int .i64 (dn : Int))) (simp [*]) (fail)
    obtain ⟨w4, hw4⟩ : ∃ w4, w4 = (w2.setCell ⟨B, 23 + dn, none⟩ (.int .i64 (-1))).drew := ⟨_, rfl⟩
    rw [← hw4]
    have HI4 : Hid (Inv w4 B (s.var dn (-1)) vo vs) := by
      rw [hw4]; exact ((unhide HI2).turn ((unhide HI2).1.set_var dn (by omega) _) (keep_set (Keep.refl _ _) _ _) rfl rfl).drew
    have HBl : Hid (Below B w w4) := by rw [hw4]; exact ((unhide HBel).setCell (p := ⟨B, 23 + dn, none⟩) (Nat.le_refl _) _).drew
    have hz4 : w.heap.size < w4.heap.size := by rw [hw4]; simp; exact hz2
    have p0 : w4.cell? ⟨w.heap.size, 0, none⟩ = some (.int .i64 14) := by rw [hw4]; exact (hk _ _ _ _).trans q0
    have p1 : w4.cell? ⟨w.heap.size, 1, none⟩ = some (.int .i64 (dn : Int)) := by rw [hw4]; exact (hk _ _ _ _).trans q1
    have p2 : w4.cell? ⟨w.heap.size, 2, none⟩ = some (.int .i64 a) := by rw [hw4]; exact (hk _ _ _ _).trans q2
    have p3 : w4.cell? ⟨w.heap.size, 3, none⟩ = some (.int .i64 b) := by rw [hw4]; exact (hk _ _ _ _).trans q3
    clear hw4 q0 q1 q2 q3 cd
    go_wp2_with fail
    go_region_held3 (fun w' => w'.cell? ⟨w.heap.size, 0, none⟩ = some (.int .i64 14) ∧ w'.cell? ⟨w.heap.size, 1, none⟩ = some (.int .i64 (dn : Int)) ∧ w'.cell? ⟨w.heap.size, 2, none⟩ = some (.int .i64 a) ∧ w'.cell? ⟨w.heap.size, 3, none⟩ = some (.int .i64 b)) (first | (simp [*]; done) | assumption)
      ((go_at_call 86; refine (unhide KD (s.var dn (-1)) vo vs _ ?_ rfl rfl rfl rfl).mono ?_; exact (unhide HI4).drew; intro e w5 hD; have hbl := hD.2.2.block w.heap.size hz4 (fun h => h.elim hne (unhide HN)); have r0 := (World.cell?_of_block hbl).trans p0; have r1 := (World.cell?_of_block hbl).trans p1; have r2 := (World.cell?_of_block hbl).trans p2; have r3 := (World.cell?_of_block hbl).trans p3; have HP := hide (StepPost.of hD (unhide HI4).drew (unhide HBl).drew); obtain ⟨rfl, _, _⟩ := hD; clear hbl))
    go_wp2_with fail
    go_returns
    have hP := unhide HP
    exact hP
end Go.Proofs.YtoepcplbpochpaaDoor
