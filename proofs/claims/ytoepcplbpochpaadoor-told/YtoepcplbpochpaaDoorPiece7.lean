/-
  What (*code.Run).Do does to a run: one instruction, as far as programs and units have it in common.
-/
import Derived.Test.YtoepcplbpochpaaDoorPiece3
import Derived.Deep.AppendLies
import Derived.Deep.RegionLaw

namespace Go.Proofs.YtoepcplbpochpaaDoor
open Go.RowKit

/-- A run in memory: its block, and the two lists that it owns. -/
def Inv (w : World) (B : Nat) (s : St) (vo vs : Value) : Prop :=
  StB w B s vo vs ∧ w.ownsRow (B + 1) 3 1 vo s.outs.length (intCells s.outs) ∧ w.ownsRow (B + 1) 63 5 vs s.stops.length (snCells s.stops)
theorem Inv.turn {w w' : World} {B : Nat} {s s' : St} {vo vs : Value} (h : Inv w B s vo vs) (hb : StB w' B s' vo vs) (hk : Keep (fun k => k = B) w w') (ho : s'.outs = s.outs) (hs : s'.stops = s.stops) : Inv w' B s' vo vs := by
  refine ⟨hb, ?_, ?_⟩
  · rw [ho]; exact own_keep h.2.1 hk (fun g hg e => by have := (own_in h.2.1 g hg).1; omega)
  · rw [hs]; exact own_keep h.2.2 hk (fun g hg e => by have := (own_in h.2.2 g hg).1; omega)
/-- What an instruction leaves behind. -/
def DoPost (w : World) (B : Nat) (s' : St) (vo vs : Value) (e : Ending) (w' : World) : Prop :=
  e = .returned (.tuple #[]) ∧ (∃ vo', Inv w' B s' vo' vs) ∧ Keep (fun k => k = B ∨ some k = vo.ownBlock) w w'
theorem DoPost.of {w w' : World} {B : Nat} {s s' : St} {vo vs : Value} (h : Inv w B s vo vs) (hb : StB w' B s' vo vs) (hk : Keep (fun k => k = B) w w') (ho : s'.outs = s.outs) (hs : s'.stops = s.stops) : DoPost w B s' vo vs (.returned (.tuple #[])) w' :=
  ⟨rfl, ⟨vo, h.turn hb hk ho hs⟩, hk.mono (fun _ _ e => .inl e)⟩

theorem reckon_outs (s : St) (op : Int) (d a b : Nat) : (s.reckon op d a b).outs = s.outs := by unfold St.reckon; split <;> rfl
theorem reckon_stops (s : St) (op : Int) (d a b : Nat) : (s.reckon op d a b).stops = s.stops := by unfold St.reckon; split <;> rfl

theorem Tryd.info3 : (Tryd.prog.info? 3).map (fun i => (i.zero, i.size, i.bytes)) = some (some (.int .i64 0), 1, 8) := by kernel_rfl
theorem Tryd.info63 : (Tryd.prog.info? 63).map (fun i => (i.zero, i.size, i.bytes)) = some (some (.agg #[.int .i64 0, .int .i64 0, .int .i64 0, .int .i64 0, .int .i64 0]), 5, 40) := by kernel_rfl

theorem grown_block {a b c : World} {row : Option Nat} {B : Nat} (hk : Keep (fun _ => False) a b) (hg : b.grownBy c row) (hne : some B ≠ row) (hlt : B < a.heap.size) : c.heap[B]? = a.heap[B]? :=
  (hg.block B (Nat.lt_of_lt_of_le hlt hk.size) hne).trans (hk.block B hlt (fun h => h))

theorem DoPost.drew {w w' : World} {B : Nat} {s : St} {vo vs : Value} {e : Ending} (h : DoPost w B s vo vs e w') : DoPost w B s vo vs e w'.drew := by
  obtain ⟨h1, ⟨vo', h2, h3, h4⟩, h5⟩ := h
  exact ⟨h1, ⟨vo', h2.drew, h3.drew, h4.drew⟩, h5.drew⟩
theorem out_post {w w2 wz w3 : World} {B : Nat} {s : St} {vo vs v' : Value} {y : Int} (hI2 : Inv w2 B s.next vo vs) (hK2 : Keep (fun k => k = B) w w2) (hz : Keep (fun _ => False) w2 wz) (hg : wz.grownBy w3 vo.ownBlock)
    (hown : w3.ownsRow (B + 1) 3 1 v' (s.outs.length + 1) (intCells s.outs ++ [.int .i64 y])) : DoPost w B (s.next.out y) vo vs (.returned (.tuple #[])) (w3.setCell ⟨B, 21, none⟩ v') := by
  have hB2 := hI2.1.lt
  have hne : some B ≠ vo.ownBlock := fun e => by have := (own_in hI2.2.1 B e.symm).1; omega
  have hbl := grown_block hz hg hne hB2
  have hk3 : Keep (fun k => some k = vo.ownBlock) w2 w3 := (hz.mono (fun _ _ h => h.elim)).grown hg (fun k e _ => e.symm)
  have hkB : Keep (fun k => k = B) w3 (w3.setCell ⟨B, 21, none⟩ v') := keep_set (Keep.refl _ _) _ _
  refine ⟨rfl, ⟨v', ((hI2.1.of_block hbl).set_outs v' y), ?_, ?_⟩, ?_⟩
  · show World.ownsRow _ _ _ _ _ ((s.outs ++ [y]).length) (intCells (s.outs ++ [y]))
    rw [List.length_append, intCells_snoc]
    exact own_keep hown hkB (fun g hg e => by have := (own_in hown g hg).1; omega)
  · have hs3 := own_keep hI2.2.2 hk3 (fun g hg e => own_apart hI2.2.2 hI2.2.1 (by decide) g hg e.symm)
    exact own_keep hs3 hkB (fun g hg e => by have := (own_in hs3 g hg).1; omega)
  · exact ((hK2.mono (T := fun k => k = B ∨ some k = vo.ownBlock) (fun _ _ h => .inl h)).trans hk3 (fun _ _ h => .inr h)).trans hkB (fun _ _ h => .inl h)

/-- The world in which the instruction's own work begins. -/
def doW (w : World) (B : Nat) (s : St) (op d a b : Int) : World :=
  ((w.setCell ⟨B, 20, none⟩ (.int .i64 ((s.steps : Int) + 1))).setCell ⟨B, 16, none⟩ (.int .i64 ((s.at_ : Int) + 1))).alloc (.cells #[.int .i64 op, .int .i64 d, .int .i64 a, .int .i64 b] 77)
theorem do_open {w : World} {B : Nat} {s : St} {vo vs : Value} (op d a b : Int) (h : Inv w B s vo vs) :
    ∃ w2, w2 = doW w B s op d a b ∧ Hid (Inv w2 B s.next vo vs) ∧ Hid (Keep (fun k => k = B) w w2) ∧
      w2.cell? ⟨w.heap.size, 0, none⟩ = some (.int .i64 op) ∧ w2.cell? ⟨w.heap.size, 1, none⟩ = some (.int .i64 d) ∧ w2.cell? ⟨w.heap.size, 2, none⟩ = some (.int .i64 a) ∧ w2.cell? ⟨w.heap.size, 3, none⟩ = some (.int .i64 b) ∧
      w2.heap.size = w.heap.size + 1 ∧ (∀ o, w2.frozen? ⟨B, o, none⟩ = false) ∧ (∀ i, i < 16 → w2.cell? ⟨B, i, none⟩ = some (.int .i64 (s.regs i))) ∧ w2.cell? ⟨B, 16, none⟩ = some (.int .i64 ((s.at_ : Int) + 1)) := by
  have hk : Keep (fun k => k = B) w (doW w B s op d a b) := (keep_set (keep_set (Keep.refl _ _) _ _) _ _).alloc _
  have hsz : ((w.setCell ⟨B, 20, none⟩ (.int .i64 ((s.steps : Int) + 1))).setCell ⟨B, 16, none⟩ (.int .i64 ((s.at_ : Int) + 1))).heap.size = w.heap.size := by simp
  have hb : StB (doW w B s op d a b) B s.next vo vs := (h.1.set_next).of_block (Below.heap_alloc _ _ _ (by rw [hsz]; exact h.1.lt))
  have hi := h.turn hb hk rfl rfl
  have q : ∀ i, (doW w B s op d a b).cell? ⟨w.heap.size, i, none⟩ = #[Value.int .i64 op, .int .i64 d, .int .i64 a, .int .i64 b][i]? := fun i => World.cell?_alloc_at (hn := hsz.symm) ..
  refine ⟨_, rfl, hi, hk, (q 0).trans rfl, (q 1).trans rfl, (q 2).trans rfl, (q 3).trans rfl, ?_, hb.2.2.2.2.2.2.2.2.2.1, hb.1, ?_⟩
  · unfold doW; simp
  · have := hb.2.2.1; rw [this]; show some (Value.int .i64 ((s.at_ + 1 : Nat) : Int)) = _; rw [Int.natCast_succ]

set_option maxRecDepth 100000 in
set_option maxHeartbeats 8000000 in
theorem do_any (B : Nat) (s : St) (vo vs : Value) (x : In4) (R n V : Int) (w : World) (h : Inv w B s vo vs) (hx : Right R n V x) (hR : R ≤ 16)
    (hv : ∀ i, i < 16 → 0 ≤ s.regs i ∧ s.regs i ≤ 65535) (hat : s.at_ ≤ 1000) (hst : s.steps ≤ 100000) (hol : s.outs.length ≤ 100000) :
    Calls Tryd.prog 86 #[.pointer (some ⟨B, 0, none⟩), .agg #[.int .i64 x.op, .int .i64 x.d, .int .i64 x.a, .int .i64 x.b]] w (DoPost w B (doSt x s) vo vs) := by
  have hB := h.1.lt
  obtain ⟨op, d, a, b⟩ := x
  obtain ⟨o0, o1, rD, rA, rB, rC, rJ, rI, rS, rV, _, _⟩ := hx
  simp only at o0 o1 rD rA rB rC rJ rI rS rV ⊢
  have HI := hide h
  have HV := hide hv
  have HRD := hide rD
  have HRA := hide rA
  have HRB := hide rB
  have HRC := hide rC
  have HRJ := hide rJ
  have HRI := hide rI
  have HRS := hide rS
  have HRV := hide rV
  clear h hv rD rA rB rC rJ rI rS rV
  have hk : ∀ (wq : World) (j o : Nat) (z : Value), (wq.setCell ⟨B, j, none⟩ z).cell? ⟨w.heap.size, o, none⟩ = wq.cell? ⟨w.heap.size, o, none⟩ := fun wq j o z => World.cell?_setCell_other _ _ _ _ (fun e => by injection e with e1; omega)
  have c16 : w.cell? ⟨B, 16, none⟩ = some (.int .i64 (s.at_ : Int)) := (unhide HI).1.2.2.1
  have c20 : w.cell? ⟨B, 20, none⟩ = some (.int .i64 (s.steps : Int)) := (unhide HI).1.2.2.2.2.2.2.1
  have hf : ∀ o, w.frozen? ⟨B, o, none⟩ = false := (unhide HI).1.2.2.2.2.2.2.2.2.2.1
  rcases (show op = 0 ∨ op = 1 ∨ (2 ≤ op ∧ op ≤ 6) ∨ op = 7 ∨ op = 8 ∨ op = 9 ∨ op = 10 ∨ (11 ≤ op ∧ op ≤ 16) by omega) with rfl | rfl | ho | rfl | rfl | rfl | rfl | ho
  -- Const
  · obtain ⟨d0, d1⟩ := unhide HRD (.inl rfl)
    obtain ⟨a0, a1⟩ := unhide HRC (.inl rfl)
    obtain ⟨dn, rfl⟩ : ∃ dn : Nat, d = dn := ⟨d.toNat, by omega⟩
    have d2 : (dn : Int) < 16 := by omega
    go_enter Tryd.func86, Tryd.ntmps86
    go_wp2_with fail
    obtain ⟨w2, hw2, HI2, HK2, q0, q1, q2, q3, hz2, hf2, hc2, _⟩ := do_open 0 (dn : Int) a b (unhide HI)
    unfold doW at hw2
    rw [← hw2]
    have cd := hc2 dn (by omega)
    clear hw2 c16 c20 hf hc2
    go_region_held3 (fun w' => w'.cell? ⟨w.heap.size, 1, none⟩ = some (.int .i64 (dn : Int)) ∧ w'.cell? ⟨w.heap.size, 2, none⟩ = some (.int .i64 a)) (simp [*]) (fail)
    go_wp2_with fail
    go_returns
    exact DoPost.of (unhide HI) (((unhide HI2).1.set_reg dn (by omega) a).of_block rfl) ((keep_set (unhide HK2) _ _).drew) rfl rfl
  -- Copy
  · obtain ⟨d0, d1⟩ := unhide HRD (.inr (.inl rfl))
    obtain ⟨a0, a1⟩ := unhide HRA (.inl rfl)
    obtain ⟨dn, rfl⟩ : ∃ dn : Nat, d = dn := ⟨d.toNat, by omega⟩
    obtain ⟨an, rfl⟩ : ∃ an : Nat, a = an := ⟨a.toNat, by omega⟩
    have d2 : (dn : Int) < 16 := by omega
    have a2 : (an : Int) < 16 := by omega
    go_enter Tryd.func86, Tryd.ntmps86
    go_wp2_with fail
    obtain ⟨w2, hw2, HI2, HK2, q0, q1, q2, q3, hz2, hf2, hc2, _⟩ := do_open 1 (dn : Int) (an : Int) b (unhide HI)
    unfold doW at hw2
    rw [← hw2]
    obtain ⟨y, hy⟩ : ∃ y, y = s.regs an := ⟨_, rfl⟩
    have cd := hc2 dn (by omega)
    have ca := hc2 an (by omega)
    rw [← hy] at ca
    have HY := hide hy
    have hkc : ∀ wq : World, wq.cell? ⟨B, an, none⟩ = some (.int .i64 y) → (wq.setCell ⟨B, dn, none⟩ (.int .i64 y)).cell? ⟨B, an, none⟩ = some (.int .i64 y) := fun wq hq => by
      by_cases e : an = dn
      · subst e; exact cell_put hq
      · exact cell_set hq e
    clear hw2 c16 c20 hf hc2 hy
    go_region_held3 (fun w' => w'.cell? ⟨w.heap.size, 1, none⟩ = some (.int .i64 (dn : Int)) ∧ w'.cell? ⟨w.heap.size, 2, none⟩ = some (.int .i64 (an : Int)) ∧ w'.cell? ⟨B, an, none⟩ = some (.int .i64 y)) (simp [*]) (fail)
    go_wp2_with fail
    go_returns
    rw [unhide HY]
    exact DoPost.of (unhide HI) (((unhide HI2).1.set_reg dn (by omega) (s.regs an)).drew) ((keep_set (unhide HK2) _ _).drew) rfl rfl
  -- the arithmetic
  · obtain ⟨d0, d1⟩ := unhide HRD (.inr (.inr ho))
    obtain ⟨a0, a1⟩ := unhide HRA (.inr (.inl ho))
    obtain ⟨b0, b1⟩ := unhide HRB ho
    obtain ⟨dn, rfl⟩ : ∃ dn : Nat, d = dn := ⟨d.toNat, by omega⟩
    obtain ⟨an, rfl⟩ : ∃ an : Nat, a = an := ⟨a.toNat, by omega⟩
    obtain ⟨bn, rfl⟩ : ∃ bn : Nat, b = bn := ⟨b.toNat, by omega⟩
    have HD : Hid (doSt ⟨op, (dn : Int), (an : Int), (bn : Int)⟩ s = s.next.reckon op dn an bn) := by
      unfold Hid doSt
      simp only [Int.toNat_natCast]
      rw [if_neg (by omega), if_neg (by omega), if_neg (by omega), if_neg (by omega), if_neg (by omega), if_neg (by omega), if_pos ho]
    have KR := hide (fun w (h : StB w B s.next vo vs) => reckon_any B s.next vo vs op dn an bn w h (by omega) (by omega) (by omega) (by omega) (unhide HV an (by omega)).1 (unhide HV an (by omega)).2 (unhide HV bn (by omega)).1 (unhide HV bn (by omega)).2)
    clear HRD HRA HRB HRC HRJ HRI HRS HRV a0 a1 b0 b1 d0 d1
    rcases (show op = 2 ∨ op = 3 ∨ op = 4 ∨ op = 5 ∨ op = 6 by omega) with rfl | rfl | rfl | rfl | rfl
    all_goals
      obtain ⟨w2, hw2, HI2, HK2, q0, q1, q2, q3, hz2, hf2, hc2, _⟩ := do_open _ (dn : Int) (an : Int) (bn : Int) (unhide HI)
      have HW := hide hw2
      clear hw2 hc2
      go_enter Tryd.func86, Tryd.ntmps86
      go_wp2_with fail
      have hw2 := unhide HW
      unfold doW at hw2
      rw [← hw2]
      clear hw2 HW
      refine (unhide KR w2 (unhide HI2).1).mono ?_
      rintro e w3 ⟨rfl, HS3, HK3⟩
      have HP := hide (DoPost.of (unhide HI) HS3 ((unhide HK2).trans HK3 (fun _ _ h => h)) (reckon_outs _ _ _ _ _) (reckon_stops _ _ _ _ _))
      clear HS3 HK3
      go_wp2_with fail
      go_returns
      rw [unhide HD]
      exact unhide HP
  -- Jump
  · obtain ⟨a0, a1⟩ := unhide HRJ rfl
    obtain ⟨an, rfl⟩ : ∃ an : Nat, a = an := ⟨a.toNat, by omega⟩
    clear HRD HRA HRB HRC HRJ HRI HRS HRV
    go_enter Tryd.func86, Tryd.ntmps86
    go_wp2_with fail
    go_returns
    refine DoPost.of (s' := s.next.goto an) (unhide HI) ((((unhide HI).1.set_next).set_at an).of_block (Below.heap_alloc _ _ _ (by simp; exact hB))) ((keep_set (keep_set (keep_set (Keep.refl _ _) _ _) _ _) _ _).alloc _) rfl rfl
  -- If
  · obtain ⟨a0, a1⟩ := unhide HRA (.inr (.inr (.inl rfl)))
    obtain ⟨b0, b1⟩ := unhide HRI rfl
    obtain ⟨an, rfl⟩ : ∃ an : Nat, a = an := ⟨a.toNat, by omega⟩
    obtain ⟨bn, rfl⟩ : ∃ bn : Nat, b = bn := ⟨b.toNat, by omega⟩
    have a2 : (an : Int) < 16 := by omega
    clear HRD HRA HRB HRC HRJ HRI HRS HRV
    go_enter Tryd.func86, Tryd.ntmps86
    go_wp2_with fail
    obtain ⟨w2, hw2, HI2, HK2, q0, q1, q2, q3, hz2, hf2, hc2, c16'⟩ := do_open 8 d (an : Int) (bn : Int) (unhide HI)
    unfold doW at hw2
    rw [← hw2]
    obtain ⟨y, hy⟩ : ∃ y, y = s.regs an := ⟨_, rfl⟩
    have ca := hc2 an (by omega)
    rw [← hy] at ca
    have HY := hide hy
    clear hw2 c16 c20 hf hc2 hy
    go_region_held3 (fun w' => w'.cell? ⟨w.heap.size, 2, none⟩ = some (.int .i64 (an : Int)) ∧ w'.cell? ⟨B, an, none⟩ = some (.int .i64 y)) (simp [*]) (fail)
    by_cases hy0 : y = 0
    · subst hy0
      go_wp2_with fail
      go_returns
      have e : doSt ⟨8, d, (an : Int), (bn : Int)⟩ s = s.next := by show (if s.regs an = 0 then _ else _) = _; rw [if_pos (unhide HY).symm]
      rw [e]
      exact DoPost.of (unhide HI) (unhide HI2).1.drew (unhide HK2).drew rfl rfl
    · have hy1 : (y != 0) = true := by rw [bne_iff_ne]; exact hy0
      have e := hide (show doSt ⟨8, d, (an : Int), (bn : Int)⟩ s = s.next.goto bn by show (if s.regs an = 0 then _ else _) = _; rw [if_neg (fun h => hy0 ((unhide HY).trans h))]; rfl)
      go_wp2_with fail
      go_returns
      rw [unhide e]
      exact DoPost.of (unhide HI) ((unhide HI2).1.set_at bn).drew (keep_set (unhide HK2) _ _).drew rfl rfl
  -- Out
  · obtain ⟨a0, a1⟩ := unhide HRA (.inr (.inr (.inr (.inl rfl))))
    obtain ⟨an, rfl⟩ : ∃ an : Nat, a = an := ⟨a.toNat, by omega⟩
    have a2 : (an : Int) < 16 := by omega
    clear HRD HRA HRB HRC HRJ HRI HRS HRV
    go_enter Tryd.func86, Tryd.ntmps86
    go_wp2_with fail
    obtain ⟨w2, hw2, HI2, HK2, q0, q1, q2, q3, hz2, hf2, hc2, c16'⟩ := do_open 9 d (an : Int) b (unhide HI)
    unfold doW at hw2
    rw [← hw2]
    obtain ⟨y, hy⟩ : ∃ y, y = s.regs an := ⟨_, rfl⟩
    have ca := hc2 an (by omega)
    rw [← hy] at ca
    have HY := hide hy
    have c21 : w2.cell? ⟨B, 21, none⟩ = some vo := (unhide HI2).1.2.2.2.2.2.2.2.1
    have hB2 : B < w2.heap.size := (unhide HI2).1.lt
    have HH2 : w.heap.size < w2.heap.size := by omega
    have HO := hide (unhide HI2).2.1
    have HN : Hid (some B ≠ vo.ownBlock) := fun e => by have := (own_in (unhide HO) B e.symm).1; omega
    have HN2 : Hid (some w.heap.size ≠ vo.ownBlock) := fun e => by have := (own_in (unhide HI).2.1 _ e.symm).2; omega
    obtain ⟨i0, hi, hz0, hz1, hz2'⟩ := info_parts Tryd.info3
    clear hw2 c16 c20 hf hc2 hy hz2 c16' q0 q1 q3
    go_region_law ((refine step_append_lies _ (by rfl) _ _ _ (by rfl) (B + 1) 3 i0 _ 1 8 Tryd.underlying32 hi hz0 hz1 hz2' rfl (by omega) vo s.outs.length (intCells s.outs) (by rfl) (own_keep (unhide HO) (S := fun _ => False) (by repeat first | exact Keep.refl _ _ | refine Keep.drew ?_ | refine Keep.alloc ?_ _) (fun _ _ h => h)) ⟨w2.heap.size, 0, none⟩ 1 1 [.int .i64 y] (by rfl) (by rfl) (World.news_of_block (cs := #[.int .i64 y]) (t := 3) (fr := (0, 0)) (heap_alloc_new _ _)) (by simp [Value.oneCell']) (by omega) (by unfold maxLen; omega) (by omega) (by simp; omega) (w2.heap.size + 1) (by simp) ?_; intro g cap w3 hown3 hgrow hat3 hlt3; have HBL := hide (grown_block (a := w2) (by repeat first | exact Keep.refl _ _ | refine Keep.drew ?_ | refine Keep.alloc ?_ _) hgrow (unhide HN) hB2); have b21 : w3.cell? ⟨B, 21, none⟩ = some vo := (World.cell?_of_block (unhide HBL)).trans c21; have bf : w3.frozen? ⟨B, 21, none⟩ = false := (World.frozen?_of_block (unhide HBL)).trans (hf2 21)))
    all_goals go_wp2_with fail
    all_goals go_returns
    all_goals
      have hP := out_post (unhide HI2) (unhide HK2) (by repeat first | exact Keep.refl _ _ | refine Keep.drew ?_ | refine Keep.alloc ?_ _) hgrow hown3
      rw [unhide HY] at hP
      first | exact hP | exact hP.drew | exact hP.drew.drew
  -- Return
  · obtain ⟨a0, a1⟩ := unhide HRA (.inr (.inr (.inr (.inr (.inl rfl)))))
    obtain ⟨an, rfl⟩ : ∃ an : Nat, a = an := ⟨a.toNat, by omega⟩
    have a2 : (an : Int) < 16 := by omega
    clear HRD HRA HRB HRC HRJ HRI HRS HRV
    go_enter Tryd.func86, Tryd.ntmps86
    go_wp2_with fail
    obtain ⟨w2, hw2, HI2, HK2, q0, q1, q2, q3, hz2, hf2, hc2, c16'⟩ := do_open 10 d (an : Int) b (unhide HI)
    unfold doW at hw2
    rw [← hw2]
    obtain ⟨y, hy⟩ : ∃ y, y = s.regs an := ⟨_, rfl⟩
    have ca := hc2 an (by omega)
    rw [← hy] at ca
    have HY := hide hy
    have KE := hide (fun w (h : StB w B s.next vo vs) => end_any B s.next vo vs 0 y w h)
    have hZ : w.heap.size < w2.heap.size := by omega
    have hne : w.heap.size ≠ B := by omega
    clear hw2 c16 c20 hf hc2 hy hz2 c16'
    go_region_held3 (fun w' => w'.cell? ⟨w.heap.size, 2, none⟩ = some (.int .i64 (an : Int)) ∧ w'.cell? ⟨B, an, none⟩ = some (.int .i64 y)) (simp [*])
      ((go_at_call 113; refine (unhide KE _ ?_).mono ?_; exact (unhide HI2).1.of_block rfl; rintro e w3 ⟨rfl, HS3, HK3⟩; have t2 : w3.cell? ⟨w.heap.size, 2, none⟩ = some (.int .i64 (an : Int)) := (World.cell?_of_block (HK3.block w.heap.size hZ hne)).trans q2; have ta : w3.cell? ⟨B, an, none⟩ = some (.int .i64 y) := (by rw [unhide HY]; exact HS3.1 an (by omega)); have HP := hide (DoPost.of (unhide HI) HS3 ((unhide HK2).drew.trans HK3 (fun _ _ h => h)) rfl rfl); clear HS3 HK3))
    go_wp2_with fail
    go_returns
    have hP := unhide HP
    rw [unhide HY] at hP
    first | exact hP | exact hP.drew
  -- the others
  · obtain ⟨w2, hw2, HI2, HK2, _, _, _, _, _, _, _, _⟩ := do_open op d a b (unhide HI)
    have HW := hide hw2
    have HD : Hid (doSt ⟨op, d, a, b⟩ s = s.next) := by
      unfold Hid doSt
      simp only
      rw [if_neg (by omega), if_neg (by omega), if_neg (by omega), if_neg (by omega), if_neg (by omega), if_neg (by omega), if_neg (by omega)]
    clear HRD HRA HRB HRC HRJ HRI HRS HRV hw2
    rcases (show op = 11 ∨ op = 12 ∨ op = 13 ∨ op = 14 ∨ op = 15 ∨ op = 16 by omega) with rfl | rfl | rfl | rfl | rfl | rfl
    all_goals
      go_enter Tryd.func86, Tryd.ntmps86
      go_wp2_with fail
      go_returns
      have hw2 := unhide HW
      unfold doW at hw2
      rw [← hw2, unhide HD]
      exact DoPost.of (unhide HI) (unhide HI2).1 (unhide HK2) rfl rfl
end Go.Proofs.YtoepcplbpochpaaDoor

/-
  What is seen at a Stop: (*code.Run).See.
-/
namespace Go.Proofs.YtoepcplbpochpaaDoor
open Go.RowKit

/-- What a Stop leaves behind. -/
def SeePost (w : World) (B : Nat) (s' : St) (vo vs : Value) (e : Ending) (w' : World) : Prop :=
  e = .returned (.tuple #[]) ∧ (∃ vs', Inv w' B s' vo vs') ∧ Keep (fun k => k = B ∨ some k = vs.ownBlock) w w'
theorem SeePost.drew {w w' : World} {B : Nat} {s : St} {vo vs : Value} {e : Ending} (h : SeePost w B s vo vs e w') : SeePost w B s vo vs e w'.drew := by
  obtain ⟨h1, ⟨vs', h2, h3, h4⟩, h5⟩ := h
  exact ⟨h1, ⟨vs', h2.drew, h3.drew, h4.drew⟩, h5.drew⟩
theorem see_post {w w2 wz w3 : World} {B : Nat} {s : St} {vo vs v' : Value} {n : Int} (hI2 : Inv w2 B s vo vs) (hK2 : Keep (fun _ => False) w w2) (hz : Keep (fun _ => False) w2 wz) (hg : wz.grownBy w3 vs.ownBlock)
    (hown : w3.ownsRow (B + 1) 63 5 v' (s.stops.length + 1) (snCells s.stops ++ [.int .i64 n, .int .i64 (s.tell 0), .int .i64 (s.tell 1), .int .i64 (s.tell 2), .int .i64 (s.tell 3)])) : SeePost w B (s.see n) vo vs (.returned (.tuple #[])) (w3.setCell ⟨B, 22, none⟩ v') := by
  have hB2 := hI2.1.lt
  have hne : some B ≠ vs.ownBlock := fun e => by have := (own_in hI2.2.2 B e.symm).1; omega
  have hbl := grown_block hz hg hne hB2
  have hk3 : Keep (fun k => some k = vs.ownBlock) w2 w3 := (hz.mono (fun _ _ h => h.elim)).grown hg (fun k e _ => e.symm)
  have hkB : Keep (fun k => k = B) w3 (w3.setCell ⟨B, 22, none⟩ v') := keep_set (Keep.refl _ _) _ _
  refine ⟨rfl, ⟨v', ((hI2.1.of_block hbl).set_stops v' n), ?_, ?_⟩, ?_⟩
  · have hs3 := own_keep hI2.2.1 hk3 (fun g hg e => own_apart hI2.2.1 hI2.2.2 (by decide) g hg e.symm)
    exact own_keep hs3 hkB (fun g hg e => by have := (own_in hs3 g hg).1; omega)
  · show World.ownsRow _ _ _ _ _ ((s.stops ++ [_]).length) (snCells (s.stops ++ [_]))
    rw [List.length_append, snCells_snoc]
    exact own_keep hown hkB (fun g hg e => by have := (own_in hown g hg).1; omega)
  · exact ((hK2.mono (T := fun k => k = B ∨ some k = vs.ownBlock) (fun _ _ h => h.elim)).trans hk3 (fun _ _ h => .inr h)).trans hkB (fun _ _ h => .inl h)

set_option maxRecDepth 100000 in
set_option maxHeartbeats 4000000 in
theorem see_any (B : Nat) (s : St) (vo vs : Value) (n v0 v1 v2 v3 : Int) (w : World) (h : Inv w B s vo vs) (e0 : s.tell 0 = v0) (e1 : s.tell 1 = v1) (e2 : s.tell 2 = v2) (e3 : s.tell 3 = v3) (hl : s.stops.length ≤ 100000) :
    Calls Tryd.prog 85 #[.pointer (some ⟨B, 0, none⟩), .int .i64 n, .agg #[.int .i64 v0, .int .i64 v1, .int .i64 v2, .int .i64 v3]] w (SeePost w B (s.see n) vo vs) := by
  have hB := h.1.lt
  have HI := hide h
  have HE0 := hide e0
  have HE1 := hide e1
  have HE2 := hide e2
  have HE3 := hide e3
  clear h e0 e1 e2 e3
  go_enter Tryd.func85, Tryd.ntmps85
  go_wp2_with fail
  obtain ⟨w2, hw2⟩ : ∃ w2, w2 = w.alloc (.cells #[.int .i64 v0, .int .i64 v1, .int .i64 v2, .int .i64 v3] 61) := ⟨_, rfl⟩
  rw [← hw2]
  have HK2 : Hid (Keep (fun _ => False) w w2) := by rw [hw2]; exact (Keep.refl _ _).alloc _
  have q : ∀ i, w2.cell? ⟨w.heap.size, i, none⟩ = #[Value.int .i64 v0, .int .i64 v1, .int .i64 v2, .int .i64 v3][i]? := fun i => by rw [hw2, World.cell?_alloc_at (hn := rfl)]
  have q0 : w2.cell? ⟨w.heap.size, 0, none⟩ = some (.int .i64 v0) := (q 0).trans rfl
  have q1 : w2.cell? ⟨w.heap.size, 1, none⟩ = some (.int .i64 v1) := (q 1).trans rfl
  have q2 : w2.cell? ⟨w.heap.size, 2, none⟩ = some (.int .i64 v2) := (q 2).trans rfl
  have q3 : w2.cell? ⟨w.heap.size, 3, none⟩ = some (.int .i64 v3) := (q 3).trans rfl
  have HI2 : Hid (Inv w2 B s vo vs) := ⟨(unhide HI).1.of_block ((unhide HK2).block B hB (fun h => h)), own_keep (unhide HI).2.1 (unhide HK2) (fun _ _ h => h), own_keep (unhide HI).2.2 (unhide HK2) (fun _ _ h => h)⟩
  have c22 : w2.cell? ⟨B, 22, none⟩ = some vs := (unhide HI2).1.2.2.2.2.2.2.2.2.1
  have hf2 : ∀ o, w2.frozen? ⟨B, o, none⟩ = false := (unhide HI2).1.2.2.2.2.2.2.2.2.2.1
  have hB2 : B < w2.heap.size := (unhide HI2).1.lt
  have hZ : w.heap.size < w2.heap.size := by rw [hw2]; simp
  have HO := hide (unhide HI2).2.2
  have HN : Hid (some B ≠ vs.ownBlock) := fun e => by have := (own_in (unhide HO) B e.symm).1; omega
  obtain ⟨i0, hi, hz0, hz1, hz2'⟩ := info_parts Tryd.info63
  clear hw2 q
  go_region_law ((refine step_append_lies _ (by rfl) _ _ _ (by rfl) (B + 1) 63 i0 _ 5 40 Tryd.underlying35 hi hz0 hz1 hz2' rfl (by omega) vs s.stops.length (snCells s.stops) (by rfl) (own_keep (unhide HO) (S := fun _ => False) (by repeat first | exact Keep.refl _ _ | refine Keep.drew ?_ | refine Keep.alloc ?_ _) (fun _ _ h => h)) ⟨w2.heap.size, 0, none⟩ 1 1 [.int .i64 n, .int .i64 v0, .int .i64 v1, .int .i64 v2, .int .i64 v3] (by rfl) (by rfl) (World.news_of_block (cs := #[.int .i64 n, .int .i64 v0, .int .i64 v1, .int .i64 v2, .int .i64 v3]) (t := 63) (fr := (0, 0)) (heap_alloc_new _ _)) (by simp [Value.oneCell']) (by omega) (by unfold maxLen; omega) (by omega) (by simp; omega) (w2.heap.size + 1) (by simp) ?_; intro g cap w3 hown3 hgrow hat3 hlt3; have HBL := hide (grown_block (a := w2) (by repeat first | exact Keep.refl _ _ | refine Keep.drew ?_ | refine Keep.alloc ?_ _) hgrow (unhide HN) hB2); have b22 : w3.cell? ⟨B, 22, none⟩ = some vs := (World.cell?_of_block (unhide HBL)).trans c22; have bf : w3.frozen? ⟨B, 22, none⟩ = false := (World.frozen?_of_block (unhide HBL)).trans (hf2 22)))
  all_goals go_wp2_with fail
  all_goals go_returns
  all_goals
    rw [← unhide HE0, ← unhide HE1, ← unhide HE2, ← unhide HE3] at hown3
    have hP := see_post (unhide HI2) (unhide HK2) (by repeat first | exact Keep.refl _ _ | refine Keep.drew ?_ | refine Keep.alloc ?_ _) hgrow hown3
    first | exact hP | exact hP.drew | exact hP.drew.drew
end Go.Proofs.YtoepcplbpochpaaDoor

/-
  One step of the program's run: (*ir.run).step.
-/
namespace Go.Proofs.YtoepcplbpochpaaDoor
open Go.RowKit

/-- What a step leaves behind. -/
def StepPost (w : World) (B : Nat) (s' : St) (e : Ending) (w' : World) : Prop :=
  e = .returned (.tuple #[]) ∧ (∃ vo' vs', Inv w' B s' vo' vs') ∧ Below B w w'
theorem StepPost.of {w w2 w' : World} {B : Nat} {s s' : St} {vo vs : Value} {e : Ending} (h : DoPost w2 B s' vo vs e w') (hI : Inv w2 B s vo vs) (hb : Below B w w2) : StepPost w B s' e w' :=
  ⟨h.1, h.2.1.elim (fun vo' h => ⟨vo', vs, h⟩), hb.trans (h.2.2.below (Nat.le_of_lt hI.1.lt) (fun k hk e => e.elim (fun e => by omega) (fun e => by have := (own_in hI.2.1 k e.symm).1; omega)))⟩
theorem StepPost.drew {w w' : World} {B : Nat} {s : St} {e : Ending} (h : StepPost w B s e w') : StepPost w B s e w'.drew := by
  obtain ⟨h1, ⟨vo', vs', h2, h3, h4⟩, h5⟩ := h
  exact ⟨h1, ⟨vo', vs', h2.drew, h3.drew, h4.drew⟩, h5.drew⟩
theorem Inv.drew {w : World} {B : Nat} {s : St} {vo vs : Value} (h : Inv w B s vo vs) : Inv w.drew B s vo vs := ⟨h.1.drew, h.2.1.drew, h.2.2.drew⟩
theorem Inv.keep {w w' : World} {B : Nat} {s : St} {vo vs : Value} (h : Inv w B s vo vs) (hk : Keep (fun _ => False) w w') : Inv w' B s vo vs :=
  ⟨h.1.of_block (hk.block B h.1.lt (fun h => h)), own_keep h.2.1 hk (fun _ _ h => h), own_keep h.2.2 hk (fun _ _ h => h)⟩

/-- The world behind the boxing of the instruction. -/
theorem step_open {w : World} {B : Nat} {s : St} {vo vs : Value} (op d a b : Int) (h : Inv w B s vo vs) :
    ∃ w2, w2 = w.alloc (.cells #[.int .i64 op, .int .i64 d, .int .i64 a, .int .i64 b] 77) ∧ Hid (Inv w2 B s vo vs) ∧ Hid (Keep (fun k => k = B) w w2) ∧
      w2.cell? ⟨w.heap.size, 0, none⟩ = some (.int .i64 op) ∧ w2.cell? ⟨w.heap.size, 1, none⟩ = some (.int .i64 d) ∧ w2.cell? ⟨w.heap.size, 2, none⟩ = some (.int .i64 a) ∧ w2.cell? ⟨w.heap.size, 3, none⟩ = some (.int .i64 b) ∧
      w.heap.size < w2.heap.size ∧ (∀ o, w2.frozen? ⟨B, o, none⟩ = false) := by
  have hi := h.keep ((Keep.refl _ w).alloc (.cells #[.int .i64 op, .int .i64 d, .int .i64 a, .int .i64 b] 77))
  have q : ∀ i, (w.alloc (.cells #[.int .i64 op, .int .i64 d, .int .i64 a, .int .i64 b] 77)).cell? ⟨w.heap.size, i, none⟩ = #[Value.int .i64 op, .int .i64 d, .int .i64 a, .int .i64 b][i]? := fun i => World.cell?_alloc_at (hn := rfl) ..
  exact ⟨_, rfl, hi, (Keep.refl _ _).alloc _, (q 0).trans rfl, (q 1).trans rfl, (q 2).trans rfl, (q 3).trans rfl, by simp, hi.1.2.2.2.2.2.2.2.2.2.1⟩

theorem pre_eq (x : In4) (s : St) (h : x.op ≤ 10) : preSt x s = s := by
  unfold preSt; rw [if_neg (by omega), if_neg (by omega), if_neg (by omega), if_neg (by omega), if_neg (by omega), if_neg (by omega)]

set_option maxRecDepth 100000 in
set_option maxHeartbeats 8000000 in
theorem step_any (B : Nat) (s : St) (vo vs : Value) (x : In4) (R n V : Int) (w : World) (h : Inv w B s vo vs) (hx : Right R n V x) (hp : x.op ≤ 14) (hE : s.env = progEnv) (hR : R ≤ 12) (hV : V ≤ 4)
    (hv : ∀ i, i < 16 → 0 ≤ s.regs i ∧ s.regs i ≤ 65535) (hat : s.at_ ≤ 1000) (hst : s.steps ≤ 100000) (hol : s.outs.length ≤ 100000) (hsl : s.stops.length ≤ 100000) :
    Calls Tryd.prog 50 #[.pointer (some ⟨B, 0, none⟩), .agg #[.int .i64 x.op, .int .i64 x.d, .int .i64 x.a, .int .i64 x.b]] w (StepPost w B (stepSt x s)) := by
  have hB := h.1.lt
  have KD := hide (fun (s' : St) (vo' vs' : Value) (w' : World) (h' : Inv w' B s' vo' vs') (hr : s'.regs = s.regs) (ha : s'.at_ = s.at_) (hst' : s'.steps = s.steps) (ho : s'.outs = s.outs) => do_any B s' vo' vs' x R n V w' h' hx (by omega) (by rw [hr]; exact hv) (by rw [ha]; exact hat) (by rw [hst']; exact hst) (by rw [ho]; exact hol))
  obtain ⟨w2, hw2, HI2, HK2, q0, q1, q2, q3, hz2, hf2⟩ := step_open x.op x.d x.a x.b h
  have HW := hide hw2
  have hB2 : B < w2.heap.size := (unhide HI2).1.lt
  have HBel : Hid (Below B w w2) := (unhide HK2).below (Nat.le_of_lt hB) (fun k hk e => by omega)
  have HI := hide h
  have HX := hide hx
  have hne : w.heap.size ≠ B := by omega
  have hk : ∀ (wq : World) (j o : Nat) (z : Value), (wq.setCell ⟨B, j, none⟩ z).cell? ⟨w.heap.size, o, none⟩ = wq.cell? ⟨w.heap.size, o, none⟩ := fun wq j o z => World.cell?_setCell_other _ _ _ _ (fun e => by injection e with e1; omega)
  clear h hx hv hw2
  have o0 : 0 ≤ x.op := (unhide HX).1
  have o1 := hp
  have hnv : s.env.nv = 4 := by rw [hE]; rfl
  have HEV : Hid (∀ v, s.vars v = s.tell v) := fun v => by unfold St.tell; rw [hE]; rfl
  clear hp hE
  have HN : Hid (some w.heap.size ≠ vo.ownBlock) := fun e => by have := (own_in (unhide HI).2.1 _ e.symm).2; omega
  obtain ⟨op, d, a, b⟩ := x
  simp only at *
  rcases (show op ≤ 10 ∨ op = 11 ∨ op = 12 ∨ op = 13 ∨ op = 14 by omega) with ho | rfl | rfl | rfl | rfl
  · have HP0 := hide (pre_eq ⟨op, d, a, b⟩ s ho)
    have HBl := HBel
    have h11 : (op == 11) = false := by rw [beq_eq_false_iff_ne]; omega
    have h12 : (op == 12) = false := by rw [beq_eq_false_iff_ne]; omega
    have h13 : (op == 13) = false := by rw [beq_eq_false_iff_ne]; omega
    have h14 : (op == 14) = false := by rw [beq_eq_false_iff_ne]; omega
    go_enter Tryd.func50, Tryd.ntmps50
    go_wp2_with fail
    rw [← unhide HW]
    go_wp2_with fail
    go_region_held3 (fun w' => w'.cell? ⟨w.heap.size, 0, none⟩ = some (.int .i64 op) ∧ w'.cell? ⟨w.heap.size, 1, none⟩ = some (.int .i64 d) ∧ w'.cell? ⟨w.heap.size, 2, none⟩ = some (.int .i64 a) ∧ w'.cell? ⟨w.heap.size, 3, none⟩ = some (.int .i64 b)) (first | (simp [*]; done) | assumption)
      ((go_at_call 86; refine (unhide KD s vo vs _ ?_ rfl rfl rfl rfl).mono ?_; exact (unhide HI2).drew; intro e w5 hD; have hbl := hD.2.2.block w.heap.size hz2 (fun h => h.elim hne (unhide HN)); have r0 := (World.cell?_of_block hbl).trans q0; have r1 := (World.cell?_of_block hbl).trans q1; have r2 := (World.cell?_of_block hbl).trans q2; have r3 := (World.cell?_of_block hbl).trans q3; have HP := hide (StepPost.of hD (unhide HI2).drew (unhide HBl).drew); obtain ⟨rfl, _, _⟩ := hD; clear hbl))
    go_wp2_with fail
    go_returns
    have hP := unhide HP
    unfold stepSt
    rw [unhide HP0]
    exact hP
  -- Stop
  · obtain ⟨v0, e0⟩ : ∃ v, s.tell 0 = v := ⟨_, rfl⟩
    obtain ⟨v1, e1⟩ : ∃ v, s.tell 1 = v := ⟨_, rfl⟩
    obtain ⟨v2, e2⟩ : ∃ v, s.tell 2 = v := ⟨_, rfl⟩
    obtain ⟨v3, e3⟩ : ∃ v, s.tell 3 = v := ⟨_, rfl⟩
    have c0 : w2.cell? ⟨B, 23, none⟩ = some (.int .i64 v0) := by rw [← e0, ← unhide HEV]; exact (unhide HI2).1.2.1 0 (by omega)
    have c1 : w2.cell? ⟨B, 24, none⟩ = some (.int .i64 v1) := by rw [← e1, ← unhide HEV]; exact (unhide HI2).1.2.1 1 (by omega)
    have c2 : w2.cell? ⟨B, 25, none⟩ = some (.int .i64 v2) := by rw [← e2, ← unhide HEV]; exact (unhide HI2).1.2.1 2 (by omega)
    have c3 : w2.cell? ⟨B, 26, none⟩ = some (.int .i64 v3) := by rw [← e3, ← unhide HEV]; exact (unhide HI2).1.2.1 3 (by omega)
    have KS := hide (fun w' (h : Inv w' B s vo vs) => see_any B s vo vs a v0 v1 v2 v3 w' h e0 e1 e2 e3 hsl)
    have HNs : Hid (some w.heap.size ≠ vs.ownBlock) := fun e => by have := (own_in (unhide HI).2.2 _ e.symm).2; omega
    have HNb : Hid (∀ k, k < B → ¬ (k = B ∨ some k = vs.ownBlock)) := fun k hk e => e.elim (fun e => by omega) (fun e => by have := (own_in (unhide HI2).2.2 k e.symm).1; omega)
    have HE := hide (And.intro e0 (And.intro e1 (And.intro e2 e3)))
    clear e0 e1 e2 e3
    go_enter Tryd.func50, Tryd.ntmps50
    go_wp2_with fail
    rw [← unhide HW]
    go_region_held3 (fun w' => w'.cell? ⟨w.heap.size, 2, none⟩ = some (.int .i64 a) ∧ w'.cell? ⟨B, 23, none⟩ = some (.int .i64 v0) ∧ w'.cell? ⟨B, 24, none⟩ = some (.int .i64 v1) ∧ w'.cell? ⟨B, 25, none⟩ = some (.int .i64 v2) ∧ w'.cell? ⟨B, 26, none⟩ = some (.int .i64 v3)) (first | (simp [*]; done) | assumption)
      ((go_at_call 85; refine (unhide KS _ ?_).mono ?_; exact (unhide HI2).drew; intro e w4 hD; obtain ⟨rfl, ⟨vs4, hI4⟩, hK4⟩ := hD; have hbl := hK4.block w.heap.size hz2 (fun h => h.elim hne (unhide HNs)); have p0 := (World.cell?_of_block hbl).trans q0; have p1 := (World.cell?_of_block hbl).trans q1; have p2 := (World.cell?_of_block hbl).trans q2; have p3 := (World.cell?_of_block hbl).trans q3; have d0 : w4.cell? ⟨B, 23, none⟩ = some (.int .i64 v0) := (by rw [← (unhide HE).1, ← unhide HEV]; exact hI4.1.2.1 0 (show 0 < s.env.nv by omega)); have d1 : w4.cell? ⟨B, 24, none⟩ = some (.int .i64 v1) := (by rw [← (unhide HE).2.1, ← unhide HEV]; exact hI4.1.2.1 1 (show 1 < s.env.nv by omega)); have d2 : w4.cell? ⟨B, 25, none⟩ = some (.int .i64 v2) := (by rw [← (unhide HE).2.2.1, ← unhide HEV]; exact hI4.1.2.1 2 (show 2 < s.env.nv by omega)); have d3 : w4.cell? ⟨B, 26, none⟩ = some (.int .i64 v3) := (by rw [← (unhide HE).2.2.2, ← unhide HEV]; exact hI4.1.2.1 3 (show 3 < s.env.nv by omega)); have HI4 := hide hI4; have HK4 := hide hK4; clear hbl hI4 hK4))
    have HBl : Hid (Below B w w4) := (unhide HBel).drew.trans ((unhide HK4).below (Nat.le_of_lt hB2) (unhide HNb))
    have hz4 : w.heap.size < w4.heap.size := Nat.lt_of_lt_of_le hz2 (unhide HK4).size
    clear HK4 q0 q1 q2 q3 c0 c1 c2 c3
    go_wp2_with fail
    go_region_held3 (fun w' => w'.cell? ⟨w.heap.size, 0, none⟩ = some (.int .i64 11) ∧ w'.cell? ⟨w.heap.size, 1, none⟩ = some (.int .i64 d) ∧ w'.cell? ⟨w.heap.size, 2, none⟩ = some (.int .i64 a) ∧ w'.cell? ⟨w.heap.size, 3, none⟩ = some (.int .i64 b)) (first | (simp [*]; done) | assumption)
      ((go_at_call 86; refine (unhide KD (s.see a) vo vs4 _ ?_ rfl rfl rfl rfl).mono ?_; exact (unhide HI4).drew; intro e w5 hD; have hbl := hD.2.2.block w.heap.size hz4 (fun h => h.elim hne (unhide HN)); have r0 := (World.cell?_of_block hbl).trans p0; have r1 := (World.cell?_of_block hbl).trans p1; have r2 := (World.cell?_of_block hbl).trans p2; have r3 := (World.cell?_of_block hbl).trans p3; have HP := hide (StepPost.of hD (unhide HI4).drew (unhide HBl).drew); obtain ⟨rfl, _, _⟩ := hD; clear hbl))
    go_wp2_with fail
    go_returns
    have hP := unhide HP
    exact hP
  · obtain ⟨d0, d1⟩ := (unhide HX).2.2.2.2.2.2.2.2.2.1 (show (12 : Int) ≤ 12 ∧ (12 : Int) ≤ 14 by decide)
    simp only at d0 d1
    obtain ⟨dn, rfl⟩ : ∃ dn : Nat, d = dn := ⟨d.toNat, by omega⟩
    have d2 : (dn : Int) < 4 := by omega
    have cd : w2.cell? ⟨B, 23 + dn, none⟩ = some (.int .i64 (s.vars dn)) := (unhide HI2).1.2.1 dn (by omega)
    obtain ⟨a0, a1⟩ := (unhide HX).2.2.2.1 (.inr (.inr (.inr (.inr (.inr rfl)))))
    simp only at a0 a1
    obtain ⟨an, rfl⟩ : ∃ an : Nat, a = an := ⟨a.toNat, by omega⟩
    have a2 : (an : Int) < 16 := by omega
    obtain ⟨y, hy⟩ : ∃ y, y = s.regs an := ⟨_, rfl⟩
    have ca : w2.cell? ⟨B, an, none⟩ = some (.int .i64 y) := by rw [hy]; exact (unhide HI2).1.1 an (by omega)
    have HY := hide hy
    have hkc : ∀ (wq : World) (z : Value), (wq.setCell ⟨B, 23 + dn, none⟩ z).cell? ⟨B, an, none⟩ = wq.cell? ⟨B, an, none⟩ := fun wq z => World.cell?_setCell_other _ _ _ _ (fun e => by injection e with e1 e2; omega)
    clear hy
    go_enter Tryd.func50, Tryd.ntmps50
    go_wp2_with fail
    rw [← unhide HW]
    go_region_held3 (fun w' => w'.cell? ⟨w.heap.size, 1, none⟩ = some (.int .i64 (dn : Int)) ∧ w'.cell? ⟨w.heap.size, 2, none⟩ = some (.int .i64 (an : Int)) ∧ w'.cell? ⟨B, an, none⟩ = some (.int .i64 y)) (simp [*]) (fail)
    obtain ⟨w4, hw4⟩ : ∃ w4, w4 = (w2.setCell ⟨B, 23 + dn, none⟩ (.int .i64 y)).drew := ⟨_, rfl⟩
    rw [← hw4]
    have HI4 : Hid (Inv w4 B (s.var dn y) vo vs) := by
      rw [hw4]; exact ((unhide HI2).turn ((unhide HI2).1.set_var dn (by omega) _) (keep_set (Keep.refl _ _) _ _) rfl rfl).drew
    have HBl : Hid (Below B w w4) := by rw [hw4]; exact ((unhide HBel).setCell (p := ⟨B, 23 + dn, none⟩) (Nat.le_refl _) _).drew
    have hz4 : w.heap.size < w4.heap.size := by rw [hw4]; simp; exact hz2
    have p0 : w4.cell? ⟨w.heap.size, 0, none⟩ = some (.int .i64 12) := by rw [hw4]; exact (hk _ _ _ _).trans q0
    have p1 : w4.cell? ⟨w.heap.size, 1, none⟩ = some (.int .i64 (dn : Int)) := by rw [hw4]; exact (hk _ _ _ _).trans q1
    have p2 : w4.cell? ⟨w.heap.size, 2, none⟩ = some (.int .i64 (an : Int)) := by rw [hw4]; exact (hk _ _ _ _).trans q2
    have p3 : w4.cell? ⟨w.heap.size, 3, none⟩ = some (.int .i64 b) := by rw [hw4]; exact (hk _ _ _ _).trans q3
    clear hw4 q0 q1 q2 q3 cd ca
    go_wp2_with fail
    go_region_held3 (fun w' => w'.cell? ⟨w.heap.size, 0, none⟩ = some (.int .i64 12) ∧ w'.cell? ⟨w.heap.size, 1, none⟩ = some (.int .i64 (dn : Int)) ∧ w'.cell? ⟨w.heap.size, 2, none⟩ = some (.int .i64 (an : Int)) ∧ w'.cell? ⟨w.heap.size, 3, none⟩ = some (.int .i64 b)) (first | (simp [*]; done) | assumption)
      ((go_at_call 86; refine (unhide KD (s.var dn y) vo vs _ ?_ rfl rfl rfl rfl).mono ?_; exact (unhide HI4).drew; intro e w5 hD; have hbl := hD.2.2.block w.heap.size hz4 (fun h => h.elim hne (unhide HN)); have r0 := (World.cell?_of_block hbl).trans p0; have r1 := (World.cell?_of_block hbl).trans p1; have r2 := (World.cell?_of_block hbl).trans p2; have r3 := (World.cell?_of_block hbl).trans p3; have HP := hide (StepPost.of hD (unhide HI4).drew (unhide HBl).drew); obtain ⟨rfl, _, _⟩ := hD; clear hbl))
    go_wp2_with fail
    go_returns
    have hP := unhide HP
    rw [unhide HY] at hP
    exact hP
  · obtain ⟨d0, d1⟩ := (unhide HX).2.2.2.2.2.2.2.2.2.1 (show (12 : Int) ≤ 13 ∧ (13 : Int) ≤ 14 by decide)
    simp only at d0 d1
    obtain ⟨dn, rfl⟩ : ∃ dn : Nat, d = dn := ⟨d.toNat, by omega⟩
    have d2 : (dn : Int) < 4 := by omega
    have cd : w2.cell? ⟨B, 23 + dn, none⟩ = some (.int .i64 (s.vars dn)) := (unhide HI2).1.2.1 dn (by omega)
    go_enter Tryd.func50, Tryd.ntmps50
    go_wp2_with fail
    rw [← unhide HW]
    go_region_held3 (fun w' => w'.cell? ⟨w.heap.size, 1, none⟩ = some (.int .i64 (dn : Int)) ∧ w'.cell? ⟨w.heap.size, 2, none⟩ = some (.int .i64 a)) (simp [*]) (fail)
    obtain ⟨w4, hw4⟩ : ∃ w4, w4 = (w2.setCell ⟨B, 23 + dn, none⟩ (.int .i64 a)).drew := ⟨_, rfl⟩
    rw [← hw4]
    have HI4 : Hid (Inv w4 B (s.var dn a) vo vs) := by
      rw [hw4]; exact ((unhide HI2).turn ((unhide HI2).1.set_var dn (by omega) _) (keep_set (Keep.refl _ _) _ _) rfl rfl).drew
    have HBl : Hid (Below B w w4) := by rw [hw4]; exact ((unhide HBel).setCell (p := ⟨B, 23 + dn, none⟩) (Nat.le_refl _) _).drew
    have hz4 : w.heap.size < w4.heap.size := by rw [hw4]; simp; exact hz2
    have p0 : w4.cell? ⟨w.heap.size, 0, none⟩ = some (.int .i64 13) := by rw [hw4]; exact (hk _ _ _ _).trans q0
    have p1 : w4.cell? ⟨w.heap.size, 1, none⟩ = some (.int .i64 (dn : Int)) := by rw [hw4]; exact (hk _ _ _ _).trans q1
    have p2 : w4.cell? ⟨w.heap.size, 2, none⟩ = some (.int .i64 a) := by rw [hw4]; exact (hk _ _ _ _).trans q2
    have p3 : w4.cell? ⟨w.heap.size, 3, none⟩ = some (.int .i64 b) := by rw [hw4]; exact (hk _ _ _ _).trans q3
    clear hw4 q0 q1 q2 q3 cd
    go_wp2_with fail
    go_region_held3 (fun w' => w'.cell? ⟨w.heap.size, 0, none⟩ = some (.int .i64 13) ∧ w'.cell? ⟨w.heap.size, 1, none⟩ = some (.int .i64 (dn : Int)) ∧ w'.cell? ⟨w.heap.size, 2, none⟩ = some (.int .i64 a) ∧ w'.cell? ⟨w.heap.size, 3, none⟩ = some (.int .i64 b)) (first | (simp [*]; done) | assumption)
      ((go_at_call 86; refine (unhide KD (s.var dn a) vo vs _ ?_ rfl rfl rfl rfl).mono ?_; exact (unhide HI4).drew; intro e w5 hD; have hbl := hD.2.2.block w.heap.size hz4 (fun h => h.elim hne (unhide HN)); have r0 := (World.cell?_of_block hbl).trans p0; have r1 := (World.cell?_of_block hbl).trans p1; have r2 := (World.cell?_of_block hbl).trans p2; have r3 := (World.cell?_of_block hbl).trans p3; have HP := hide (StepPost.of hD (unhide HI4).drew (unhide HBl).drew); obtain ⟨rfl, _, _⟩ := hD; clear hbl))
    go_wp2_with fail
    go_returns
    have hP := unhide HP
    exact hP
  · obtain ⟨d0, d1⟩ := (unhide HX).2.2.2.2.2.2.2.2.2.1 (show (12 : Int) ≤ 14 ∧ (14 : Int) ≤ 14 by decide)
    simp only at d0 d1
    obtain ⟨dn, rfl⟩ : ∃ dn : Nat, d = dn := ⟨d.toNat, by omega⟩
    have d2 : (dn : Int) < 4 := by omega
    have cd : w2.cell? ⟨B, 23 + dn, none⟩ = some (.int .i64 (s.vars dn)) := (unhide HI2).1.2.1 dn (by omega)
    go_enter Tryd.func50, Tryd.ntmps50
    go_wp2_with fail
    rw [← unhide HW]
    go_region_held3 (fun w' => w'.cell? ⟨w.heap.size, 1, none⟩ = some (.int .i64 (dn : Int))) (simp [*]) (fail)
    obtain ⟨w4, hw4⟩ : ∃ w4, w4 = (w2.setCell ⟨B, 23 + dn, none⟩ (.int .i64 (-1))).drew := ⟨_, rfl⟩
    rw [← hw4]
    have HI4 : Hid (Inv w4 B (s.var dn (-1)) vo vs) := by
      rw [hw4]; exact ((unhide HI2).turn ((unhide HI2).1.set_var dn (by omega) _) (keep_set (Keep.refl _ _) _ _) rfl rfl).drew
    have HBl : Hid (Below B w w4) := by rw [hw4]; exact ((unhide HBel).setCell (p := ⟨B, 23 + dn, none⟩) (Nat.le_refl _) _).drew
    have hz4 : w.heap.size < w4.heap.size := by rw [hw4]; simp; exact hz2
    have p0 : w4.cell? ⟨w.heap.size, 0, none⟩ = some (.int .i64 14) := by rw [hw4]; exact (hk _ _ _ _).trans q0
    have p1 : w4.cell? ⟨w.heap.size, 1, none⟩ = some (.int .i64 (dn : Int)) := by rw [hw4]; exact (hk _ _ _ _).trans q1
    have p2 : w4.cell? ⟨w.heap.size, 2, none⟩ = some (.int .i64 a) := by rw [hw4]; exact (hk _ _ _ _).trans q2
    have p3 : w4.cell? ⟨w.heap.size, 3, none⟩ = some (.int .i64 b) := by rw [hw4]; exact (hk _ _ _ _).trans q3
    clear hw4 q0 q1 q2 q3 cd
    go_wp2_with fail
    go_region_held3 (fun w' => w'.cell? ⟨w.heap.size, 0, none⟩ = some (.int .i64 14) ∧ w'.cell? ⟨w.heap.size, 1, none⟩ = some (.int .i64 (dn : Int)) ∧ w'.cell? ⟨w.heap.size, 2, none⟩ = some (.int .i64 a) ∧ w'.cell? ⟨w.heap.size, 3, none⟩ = some (.int .i64 b)) (first | (simp [*]; done) | assumption)
      ((go_at_call 86; refine (unhide KD (s.var dn (-1)) vo vs _ ?_ rfl rfl rfl rfl).mono ?_; exact (unhide HI4).drew; intro e w5 hD; have hbl := hD.2.2.block w.heap.size hz4 (fun h => h.elim hne (unhide HN)); have r0 := (World.cell?_of_block hbl).trans p0; have r1 := (World.cell?_of_block hbl).trans p1; have r2 := (World.cell?_of_block hbl).trans p2; have r3 := (World.cell?_of_block hbl).trans p3; have HP := hide (StepPost.of hD (unhide HI4).drew (unhide HBl).drew); obtain ⟨rfl, _, _⟩ := hD; clear hbl))
    go_wp2_with fail
    go_returns
    have hP := unhide HP
    exact hP
end Go.Proofs.YtoepcplbpochpaaDoor
