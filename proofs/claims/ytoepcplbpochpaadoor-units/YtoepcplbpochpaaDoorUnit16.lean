/-
  What (*code.Run).Do does to a run: one instruction, as far as programs and units have it in common.
-/
import Derived.Test.YtoepcplbpochpaaDoorUnit15
import Derived.Deep.AppendLies
import Derived.Deep.RegionLaw

namespace Go.Proofs.YtoepcplbpochpaaDoor
open Go.RowKit

/-- A run in memory: its block, and the two lists that it owns. -/
def Inv (w : World) (B : Nat) (s : St) (vo vs : Value) : Prop :=
  StB w B s vo vs ∧ w.ownsRow (B + 1) 3 1 vo s.outs.length (intCells s.outs) ∧ w.ownsRow (B + 1) 63 5 vs s.stops.length (snCells s.stops)
theorem Inv.turn {w w' : World} {B : Nat} {s s' : St} {vo vs : Value} (h : Inv w B s vo vs) (hb : StB w' B s' vo vs) (hk : Keep (fun k => k = B) w w') (ho : s'.outs = s.outs) (hs : s'.stops = s.stops) : Inv w' B s' vo vs := by
  refine ⟨hb, ?_, ?_⟩
  · rw [ho]; exact own_keep h.2.1 hk (fun g hg e => by have := (own_in h.2.1 g hg).1; omega)
  · rw [hs]; exact own_keep h.2.2 hk (fun g hg e => by have := (own_in h.2.2 g hg).1; omega)
/-- What an instruction leaves behind. -/
def DoPost (w : World) (B : Nat) (s' : St) (vo vs : Value) (e : Ending) (w' : World) : Prop :=
  e = .returned (.tuple #[]) ∧ (∃ vo', Inv w' B s' vo' vs) ∧ Keep (fun k => k = B ∨ some k = vo.ownBlock) w w'
theorem DoPost.of {w w' : World} {B : Nat} {s s' : St} {vo vs : Value} (h : Inv w B s vo vs) (hb : StB w' B s' vo vs) (hk : Keep (fun k => k = B) w w') (ho : s'.outs = s.outs) (hs : s'.stops = s.stops) : DoPost w B s' vo vs (.returned (.tuple #[])) w' :=
  ⟨rfl, ⟨vo, h.turn hb hk ho hs⟩, hk.mono (fun _ _ e => .inl e)⟩

theorem reckon_outs (s : St) (op : Int) (d a b : Nat) : (s.reckon op d a b).outs = s.outs := by unfold St.reckon; split <;> rfl
theorem reckon_stops (s : St) (op : Int) (d a b : Nat) : (s.reckon op d a b).stops = s.stops := by unfold St.reckon; split <;> rfl

theorem Tryd.info3 : (Tryd.prog.info? 3).map (fun i => (i.zero, i.size, i.bytes)) = some (some (.int .i64 0), 1, 8) := by kernel_rfl
theorem Tryd.info63 : (Tryd.prog.info? 63).map (fun i => (i.zero, i.size, i.bytes)) = some (some (.agg #[.int .i64 0, .int .i64 0, .int .i64 0, .int .i64 0, .int .i64 0]), 5, 40) := by kernel_rfl

theorem grown_block {a b c : World} {row : Option Nat} {B : Nat} (hk : Keep (fun _ => False) a b) (hg : b.grownBy c row) (hne : some B ≠ row) (hlt : B < a.heap.size) : c.heap[B]? = a.heap[B]? :=
  (hg.block B (Nat.lt_of_lt_of_le hlt hk.size) hne).trans (hk.block B hlt (fun h => h))

theorem DoPost.drew {w w' : World} {B : Nat} {s : St} {vo vs : Value} {e : Ending} (h : DoPost w B s vo vs e w') : DoPost w B s vo vs e w'.drew := by
  obtain ⟨h1, ⟨vo', h2, h3, h4⟩, h5⟩ := h
  exact ⟨h1, ⟨vo', h2.drew, h3.drew, h4.drew⟩, h5.drew⟩
theorem out_post {w w2 wz w3 : World} {B : Nat} {s : St} {vo vs v' : Value} {y : Int} (hI2 : Inv w2 B s.next vo vs) (hK2 : Keep (fun k => k = B) w w2) (hz : Keep (fun _ => False) w2 wz) (hg : wz.grownBy w3 vo.ownBlock)
    (hown : w3.ownsRow (B + 1) 3 1 v' (s.outs.length + 1) (intCells s.outs ++ [.int .i64 y])) : DoPost w B (s.next.out y) vo vs (.returned (.tuple #[])) (w3.setCell ⟨B, 21, none⟩ v') := by
  have hB2 := hI2.1.lt
  have hne : some B ≠ vo.ownBlock := fun e => by have := (own_in hI2.2.1 B e.symm).1; omega
  have hbl := grown_block hz hg hne hB2
  have hk3 : Keep (fun k => some k = vo.ownBlock) w2 w3 := (hz.mono (fun _ _ h => h.elim)).grown hg (fun k e _ => e.symm)
  have hkB : Keep (fun k => k = B) w3 (w3.setCell ⟨B, 21, none⟩ v') := keep_set (Keep.refl _ _) _ _
  refine ⟨rfl, ⟨v', ((hI2.1.of_block hbl).set_outs v' y), ?_, ?_⟩, ?_⟩
  · show World.ownsRow _ _ _ _ _ ((s.outs ++ [y]).length) (intCells (s.outs ++ [y]))
    rw [List.length_append, intCells_snoc]
    exact own_keep hown hkB (fun g hg e => by have := (own_in hown g hg).1; omega)
  · have hs3 := own_keep hI2.2.2 hk3 (fun g hg e => own_apart hI2.2.2 hI2.2.1 (by decide) g hg e.symm)
    exact own_keep hs3 hkB (fun g hg e => by have := (own_in hs3 g hg).1; omega)
  · exact ((hK2.mono (T := fun k => k = B ∨ some k = vo.ownBlock) (fun _ _ h => .inl h)).trans hk3 (fun _ _ h => .inr h)).trans hkB (fun _ _ h => .inl h)

/-- The world in which the instruction's own work begins. -/
def doW (w : World) (B : Nat) (s : St) (op d a b : Int) : World :=
  ((w.setCell ⟨B, 20, none⟩ (.int .i64 ((s.steps : Int) + 1))).setCell ⟨B, 16, none⟩ (.int .i64 ((s.at_ : Int) + 1))).alloc (.cells #[.int .i64 op, .int .i64 d, .int .i64 a, .int .i64 b] 77)
theorem do_open {w : World} {B : Nat} {s : St} {vo vs : Value} (op d a b : Int) (h : Inv w B s vo vs) :
    ∃ w2, w2 = doW w B s op d a b ∧ Hid (Inv w2 B s.next vo vs) ∧ Hid (Keep (fun k => k = B) w w2) ∧
      w2.cell? ⟨w.heap.size, 0, none⟩ = some (.int .i64 op) ∧ w2.cell? ⟨w.heap.size, 1, none⟩ = some (.int .i64 d) ∧ w2.cell? ⟨w.heap.size, 2, none⟩ = some (.int .i64 a) ∧ w2.cell? ⟨w.heap.size, 3, none⟩ = some (.int .i64 b) ∧
      w2.heap.size = w.heap.size + 1 ∧ (∀ o, w2.frozen? ⟨B, o, none⟩ = false) ∧ (∀ i, i < 16 → w2.cell? ⟨B, i, none⟩ = some (.int .i64 (s.regs i))) ∧ w2.cell? ⟨B, 16, none⟩ = some (.int .i64 ((s.at_ : Int) + 1)) := by
  have hk : Keep (fun k => k = B) w (doW w B s op d a b) := (keep_set (keep_set (Keep.refl _ _) _ _) _ _).alloc _
  have hsz : ((w.setCell ⟨B, 20, none⟩ (.int .i64 ((s.steps : Int) + 1))).setCell ⟨B, 16, none⟩ (.int .i64 ((s.at_ : Int) + 1))).heap.size = w.heap.size := by simp
  have hb : StB (doW w B s op d a b) B s.next vo vs := (h.1.set_next).of_block (Below.heap_alloc _ _ _ (by rw [hsz]; exact h.1.lt))
  have hi := h.turn hb hk rfl rfl
  have q : ∀ i, (doW w B s op d a b).cell? ⟨w.heap.size, i, none⟩ = #[Value.int .i64 op, .int .i64 d, .int .i64 a, .int .i64 b][i]? := fun i => World.cell?_alloc_at (hn := hsz.symm) ..
  refine ⟨_, rfl, hi, hk, (q 0).trans rfl, (q 1).trans rfl, (q 2).trans rfl, (q 3).trans rfl, ?_, hb.2.2.2.2.2.2.2.2.2.1, hb.1, ?_⟩
  · unfold doW; simp
  · have := hb.2.2.1; rw [this]; show some (Value.int .i64 ((s.at_ + 1 : Nat) : Int)) = _; rw [Int.natCast_succ]

set_option maxRecDepth 100000 in
set_option maxHeartbeats 8000000 in
theorem do_any (B : Nat) (s : St) (vo vs : Value) (x : In4) (R n V : Int) (w : World) (h : Inv w B s vo vs) (hx : Right R n V x) (hR : R ≤ 16)
    (hv : ∀ i, i < 16 → 0 ≤ s.regs i ∧ s.regs i ≤ 65535) (hat : s.at_ ≤ 1000) (hst : s.steps ≤ 100000) (hol : s.outs.length ≤ 100000) :
    Calls Tryd.prog 86 #[.pointer (some ⟨B, 0, none⟩), .agg #[.int .i64 x.op, .int .i64 x.d, .int .i64 x.a, .int .i64 x.b]] w (DoPost w B (doSt x s) vo vs) := by
  have hB := h.1.lt
  obtain ⟨op, d, a, b⟩ := x
  obtain ⟨o0, o1, rD, rA, rB, rC, rJ, rI, rS, rV, _, _⟩ := hx
  simp only at o0 o1 rD rA rB rC rJ rI rS rV ⊢
  have HI := hide h
  have HV := hide hv
  have HRD := hide rD
  have HRA := hide rA
  have HRB := hide rB
  have HRC := hide rC
  have HRJ := hide rJ
  have HRI := hide rI
  have HRS := hide rS
  have HRV := hide rV
  clear h hv rD rA rB rC rJ rI rS rV
  have hk : ∀ (wq : World) (j o : Nat) (z : Value), (wq.setCell ⟨B, j, none⟩ z).cell? ⟨w.heap.size, o, none⟩ = wq.cell? ⟨w.heap.size, o, none⟩ := fun wq j o z => World.cell?_setCell_other _ _ _ _ (fun e => by injection e with e1; omega)
  have c16 : w.cell? ⟨B, 16, none⟩ = some (.int .i64 (s.at_ : Int)) := (unhide HI).1.2.2.1
  have c20 : w.cell? ⟨B, 20, none⟩ = some (.int .i64 (s.steps : Int)) := (unhide HI).1.2.2.2.2.2.2.1
  have hf : ∀ o, w.frozen? ⟨B, o, none⟩ = false := (unhide HI).1.2.2.2.2.2.2.2.2.2.1
  rcases (show op = 0 ∨ op = 1 ∨ (2 ≤ op ∧ op ≤ 6) ∨ op = 7 ∨ op = 8 ∨ op = 9 ∨ op = 10 ∨ (11 ≤ op ∧ op ≤ 16) by omega) with rfl | rfl | ho | rfl | rfl | rfl | rfl | ho
  -- Const
  · obtain ⟨d0, d1⟩ := unhide HRD (.inl rfl)
    obtain ⟨a0, a1⟩ := unhide HRC (.inl rfl)
    obtain ⟨dn, rfl⟩ : ∃ dn : Nat, d = dn := ⟨d.toNat, by omega⟩
    have d2 : (dn : Int) < 16 := by omega
    go_enter Tryd.func86, Tryd.ntmps86
    go_wp2_with fail
    obtain ⟨w2, hw2, HI2, HK2, q0, q1, q2, q3, hz2, hf2, hc2, _⟩ := do_open 0 (dn : Int) a b (unhide HI)
    unfold doW at hw2
    rw [← hw2]
    have cd := hc2 dn (by omega)
    clear hw2 c16 c20 hf hc2
    go_region_held3 (fun w' => w'.cell? ⟨w.heap.size, 1, none⟩ = some (.int .i64 (dn : Int)) ∧ w'.cell? ⟨w.heap.size, 2, none⟩ = some (.int .i64 a)) (simp [*]) (fail)
    go_wp2_with fail
    go_returns
    exact DoPost.of (unhide HI) (((unhide HI2).1.set_reg dn (by omega) a).of_block rfl) ((keep_set (unhide HK2) _ _).drew) rfl rfl
  -- Copy
  · obtain ⟨d0, d1⟩ := unhide HRD (.inr (.inl rfl))
    obtain ⟨a0, a1⟩ := unhide HRA (.inl rfl)
    obtain ⟨dn, rfl⟩ : ∃ dn : Nat, d = dn := ⟨d.toNat, by omega⟩
    obtain ⟨an, rfl⟩ : ∃ an : Nat, a = an := ⟨a.toNat, by omega⟩
    have d2 : (dn : Int) < 16 := by omega
    have a2 : (an : Int) < 16 := by omega
    go_enter Tryd.func86, Tryd.ntmps86
    go_wp2_with fail
    obtain ⟨w2, hw2, HI2, HK2, q0, q1, q2, q3, hz2, hf2, hc2, _⟩ := do_open 1 (dn : Int) (an : Int) b (unhide HI)
    unfold doW at hw2
    rw [← hw2]
    obtain ⟨y, hy⟩ : ∃ y, y = s.regs an := ⟨_, rfl⟩
    have cd := hc2 dn (by omega)
    have ca := hc2 an (by omega)
    rw [← hy] at ca
    have HY := hide hy
    have hkc : ∀ wq : World, wq.cell? ⟨B, an, none⟩ = some (.int .i64 y) → (wq.setCell ⟨B, dn, none⟩ (.int .i64 y)).cell? ⟨B, an, none⟩ = some (.int .i64 y) := fun wq hq => by
      by_cases e : an = dn
      · subst e; exact cell_put hq
      · exact cell_set hq e
    clear hw2 c16 c20 hf hc2 hy
    go_region_held3 (fun w' => w'.cell? ⟨w.heap.size, 1, none⟩ = some (.int .i64 (dn : Int)) ∧ w'.cell? ⟨w.heap.size, 2, none⟩ = some (.int .i64 (an : Int)) ∧ w'.cell? ⟨B, an, none⟩ = some (.int .i64 y)) (simp [*]) (fail)
    go_wp2_with fail
    go_returns
    rw [unhide HY]
    exact DoPost.of (unhide HI) (((unhide HI2).1.set_reg dn (by omega) (s.regs an)).drew) ((keep_set (unhide HK2) _ _).drew) rfl rfl
  -- the arithmetic
  · obtain ⟨d0, d1⟩ := unhide HRD (.inr (.inr ho))
    obtain ⟨a0, a1⟩ := unhide HRA (.inr (.inl ho))
    obtain ⟨b0, b1⟩ := unhide HRB ho
    obtain ⟨dn, rfl⟩ : ∃ dn : Nat, d = dn := ⟨d.toNat, by omega⟩
    obtain ⟨an, rfl⟩ : ∃ an : Nat, a = an := ⟨a.toNat, by omega⟩
    obtain ⟨bn, rfl⟩ : ∃ bn : Nat, b = bn := ⟨b.toNat, by omega⟩
    have HD : Hid (doSt ⟨op, (dn : Int), (an : Int), (bn : Int)⟩ s = s.next.reckon op dn an bn) := by
      unfold Hid doSt
      simp only [Int.toNat_natCast]
      rw [if_neg (by omega), if_neg (by omega), if_neg (by omega), if_neg (by omega), if_neg (by omega), if_neg (by omega), if_pos ho]
    have KR := hide (fun w (h : StB w B s.next vo vs) => reckon_any B s.next vo vs op dn an bn w h (by omega) (by omega) (by omega) (by omega) (unhide HV an (by omega)).1 (unhide HV an (by omega)).2 (unhide HV bn (by omega)).1 (unhide HV bn (by omega)).2)
    clear HRD HRA HRB HRC HRJ HRI HRS HRV a0 a1 b0 b1 d0 d1
    rcases (show op = 2 ∨ op = 3 ∨ op = 4 ∨ op = 5 ∨ op = 6 by omega) with rfl | rfl | rfl | rfl | rfl
    all_goals
      obtain ⟨w2, hw2, HI2, HK2, q0, q1, q2, q3, hz2, hf2, hc2, _⟩ := do_open _ (dn : Int) (an : Int) (bn : Int) (unhide HI)
      have HW := hide hw2
      clear hw2 hc2
      go_enter Tryd.func86, Tryd.ntmps86
      go_wp2_with fail
      have hw2 := unhide HW
      unfold doW at hw2
      rw [← hw2]
      clear hw2 HW
      refine (unhide KR w2 (unhide HI2).1).mono ?_
      rintro e w3 ⟨rfl, HS3, HK3⟩
      have HP := hide (DoPost.of (unhide HI) HS3 ((unhide HK2).trans HK3 (fun _ _ h => h)) (reckon_outs _ _ _ _ _) (reckon_stops _ _ _ _ _))
      clear HS3 HK3
      go_wp2_with fail
      go_returns
      rw [unhide HD]
      exact unhide HP
  -- Jump
  · obtain ⟨a0, a1⟩ := unhide HRJ rfl
    obtain ⟨an, rfl⟩ : ∃ an : Nat, a = an := ⟨a.toNat, by omega⟩
    clear HRD HRA HRB HRC HRJ HRI HRS HRV
    go_enter Tryd.func86, Tryd.ntmps86
    go_wp2_with fail
    go_returns
    refine DoPost.of (s' := s.next.goto an) (unhide HI) ((((unhide HI).1.set_next).set_at an).of_block (Below.heap_alloc _ _ _ (by simp; exact hB))) ((keep_set (keep_set (keep_set (Keep.refl _ _) _ _) _ _) _ _).alloc _) rfl rfl
  -- If
  · obtain ⟨a0, a1⟩ := unhide HRA (.inr (.inr (.inl rfl)))
    obtain ⟨b0, b1⟩ := unhide HRI rfl
    obtain ⟨an, rfl⟩ : ∃ an : Nat, a = an := ⟨a.toNat, by omega⟩
    obtain ⟨bn, rfl⟩ : ∃ bn : Nat, b = bn := ⟨b.toNat, by omega⟩
    have a2 : (an : Int) < 16 := by omega
    clear HRD HRA HRB HRC HRJ HRI HRS HRV
    go_enter Tryd.func86, Tryd.ntmps86
    go_wp2_with fail
    obtain ⟨w2, hw2, HI2, HK2, q0, q1, q2, q3, hz2, hf2, hc2, c16'⟩ := do_open 8 d (an : Int) (bn : Int) (unhide HI)
    unfold doW at hw2
    rw [← hw2]
    obtain ⟨y, hy⟩ : ∃ y, y = s.regs an := ⟨_, rfl⟩
    have ca := hc2 an (by omega)
    rw [← hy] at ca
    have HY := hide hy
    clear hw2 c16 c20 hf hc2 hy
    go_region_held3 (fun w' => w'.cell? ⟨w.heap.size, 2, none⟩ = some (.int .i64 (an : Int)) ∧ w'.cell? ⟨B, an, none⟩ = some (.int .i64 y)) (simp [*]) (fail)
    by_cases hy0 : y = 0
    · subst hy0
      go_wp2_with fail
      go_returns
      have e : doSt ⟨8, d, (an : Int), (bn : Int)⟩ s = s.next := by show (if s.regs an = 0 then _ else _) = _; rw [if_pos (unhide HY).symm]
      rw [e]
      exact DoPost.of (unhide HI) (unhide HI2).1.drew (unhide HK2).drew rfl rfl
    · have hy1 : (y != 0) = true := by rw [bne_iff_ne]; exact hy0
      have e := hide (show doSt ⟨8, d, (an : Int), (bn : Int)⟩ s = s.next.goto bn by show (if s.regs an = 0 then _ else _) = _; rw [if_neg (fun h => hy0 ((unhide HY).trans h))]; rfl)
      go_wp2_with fail
      go_returns
      rw [unhide e]
      exact DoPost.of (unhide HI) ((unhide HI2).1.set_at bn).drew (keep_set (unhide HK2) _ _).drew rfl rfl
  -- Out
  · obtain ⟨a0, a1⟩ := unhide HRA (.inr (.inr (.inr (.inl rfl))))
    obtain ⟨an, rfl⟩ : ∃ an : Nat, a = an := ⟨a.toNat, by omega⟩
    have a2 : (an : Int) < 16 := by omega
    clear HRD HRA HRB HRC HRJ HRI HRS HRV
    go_enter Tryd.func86, Tryd.ntmps86
    go_wp2_with fail
    obtain ⟨w2, hw2, HI2, HK2, q0, q1, q2, q3, hz2, hf2, hc2, c16'⟩ := do_open 9 d (an : Int) b (unhide HI)
    unfold doW at hw2
    rw [← hw2]
    obtain ⟨y, hy⟩ : ∃ y, y = s.regs an := ⟨_, rfl⟩
    have ca := hc2 an (by omega)
    rw [← hy] at ca
    have HY := hide hy
    have c21 : w2.cell? ⟨B, 21, none⟩ = some vo := (unhide HI2).1.2.2.2.2.2.2.2.1
    have hB2 : B < w2.heap.size := (unhide HI2).1.lt
    have HH2 : w.heap.size < w2.heap.size := by omega
    have HO := hide (unhide HI2).2.1
    have HN : Hid (some B ≠ vo.ownBlock) := fun e => by have := (own_in (unhide HO) B e.symm).1; omega
    have HN2 : Hid (some w.heap.size ≠ vo.ownBlock) := fun e => by have := (own_in (unhide HI).2.1 _ e.symm).2; omega
    obtain ⟨i0, hi, hz0, hz1, hz2'⟩ := info_parts Tryd.info3
    clear hw2 c16 c20 hf hc2 hy hz2 c16' q0 q1 q3
    go_region_law ((refine step_append_lies _ (by rfl) _ _ _ (by rfl) (B + 1) 3 i0 _ 1 8 Tryd.underlying32 hi hz0 hz1 hz2' rfl (by omega) vo s.outs.length (intCells s.outs) (by rfl) (own_keep (unhide HO) (S := fun _ => False) (by repeat first | exact Keep.refl _ _ | refine Keep.drew ?_ | refine Keep.alloc ?_ _) (fun _ _ h => h)) ⟨w2.heap.size, 0, none⟩ 1 1 [.int .i64 y] (by rfl) (by rfl) (World.news_of_block (cs := #[.int .i64 y]) (t := 3) (fr := (0, 0)) (heap_alloc_new _ _)) (by simp [Value.oneCell']) (by omega) (by unfold maxLen; omega) (by omega) (by simp; omega) (w2.heap.size + 1) (by simp) ?_; intro g cap w3 hown3 hgrow hat3 hlt3; have HBL := hide (grown_block (a := w2) (by repeat first | exact Keep.refl _ _ | refine Keep.drew ?_ | refine Keep.alloc ?_ _) hgrow (unhide HN) hB2); have b21 : w3.cell? ⟨B, 21, none⟩ = some vo := (World.cell?_of_block (unhide HBL)).trans c21; have bf : w3.frozen? ⟨B, 21, none⟩ = false := (World.frozen?_of_block (unhide HBL)).trans (hf2 21)))
    all_goals go_wp2_with fail
    all_goals go_returns
    all_goals
      have hP := out_post (unhide HI2) (unhide HK2) (by repeat first | exact Keep.refl _ _ | refine Keep.drew ?_ | refine Keep.alloc ?_ _) hgrow hown3
      rw [unhide HY] at hP
      first | exact hP | exact hP.drew | exact hP.drew.drew
  -- Return
  · obtain ⟨a0, a1⟩ := unhide HRA (.inr (.inr (.inr (.inr (.inl rfl)))))
    obtain ⟨an, rfl⟩ : ∃ an : Nat, a = an := ⟨a.toNat, by omega⟩
    have a2 : (an : Int) < 16 := by omega
    clear HRD HRA HRB HRC HRJ HRI HRS HRV
    go_enter Tryd.func86, Tryd.ntmps86
    go_wp2_with fail
    obtain ⟨w2, hw2, HI2, HK2, q0, q1, q2, q3, hz2, hf2, hc2, c16'⟩ := do_open 10 d (an : Int) b (unhide HI)
    unfold doW at hw2
    rw [← hw2]
    obtain ⟨y, hy⟩ : ∃ y, y = s.regs an := ⟨_, rfl⟩
    have ca := hc2 an (by omega)
    rw [← hy] at ca
    have HY := hide hy
    have KE := hide (fun w (h : StB w B s.next vo vs) => end_any B s.next vo vs 0 y w h)
    have hZ : w.heap.size < w2.heap.size := by omega
    have hne : w.heap.size ≠ B := by omega
    clear hw2 c16 c20 hf hc2 hy hz2 c16'
    go_region_held3 (fun w' => w'.cell? ⟨w.heap.size, 2, none⟩ = some (.int .i64 (an : Int)) ∧ w'.cell? ⟨B, an, none⟩ = some (.int .i64 y)) (simp [*])
      ((go_at_call 113; refine (unhide KE _ ?_).mono ?_; exact (unhide HI2).1.of_block rfl; rintro e w3 ⟨rfl, HS3, HK3⟩; have t2 : w3.cell? ⟨w.heap.size, 2, none⟩ = some (.int .i64 (an : Int)) := (World.cell?_of_block (HK3.block w.heap.size hZ hne)).trans q2; have ta : w3.cell? ⟨B, an, none⟩ = some (.int .i64 y) := (by rw [unhide HY]; exact HS3.1 an (by omega)); have HP := hide (DoPost.of (unhide HI) HS3 ((unhide HK2).drew.trans HK3 (fun _ _ h => h)) rfl rfl); clear HS3 HK3))
    go_wp2_with fail
    go_returns
    have hP := unhide HP
    rw [unhide HY] at hP
    first | exact hP | exact hP.drew
  -- the others
  · obtain ⟨w2, hw2, HI2, HK2, _, _, _, _, _, _, _, _⟩ := do_open op d a b (unhide HI)
    have HW := hide hw2
    have HD : Hid (doSt ⟨op, d, a, b⟩ s = s.next) := by
      unfold Hid doSt
      simp only
      rw [if_neg (by omega), if_neg (by omega), if_neg (by omega), if_neg (by omega), if_neg (by omega), if_neg (by omega), if_neg (by omega)]
    clear HRD HRA HRB HRC HRJ HRI HRS HRV hw2
    rcases (show op = 11 ∨ op = 12 ∨ op = 13 ∨ op = 14 ∨ op = 15 ∨ op = 16 by omega) with rfl | rfl | rfl | rfl | rfl | rfl
    all_goals
      go_enter Tryd.func86, Tryd.ntmps86
      go_wp2_with fail
      go_returns
      have hw2 := unhide HW
      unfold doW at hw2
      rw [← hw2, unhide HD]
      exact DoPost.of (unhide HI) (unhide HI2).1 (unhide HK2) rfl rfl
end Go.Proofs.YtoepcplbpochpaaDoor
