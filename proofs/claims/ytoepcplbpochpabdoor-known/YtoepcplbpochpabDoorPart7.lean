/-
  What can be told, and where it is: lodge.canBeTold, lodge.placeOf, lodge.goesOn.
-/
import Derived.Test.YtoepcplbpochpabDoorPart5
import Derived.Test.YtoepcplbpochpabDoorPart6
import Derived.BigQuiet
import Derived.Test.YtoepcplbpochpabDoorPart2
import Derived.Deep.AppendLies
import Derived.Deep.RegionLaw

namespace Go.Proofs.YtoepcplbpochpabDoor
open Go.RowKit

def canB (f : Ft) (s : Nat → Bool) : Bool := f.k == 2 || (f.k == 3 && s f.a.toNat)
def placeK (f : Ft) (hs : Nat → Bool) : Int := if f.k = 2 then 2 else if hs f.a.toNat = true then 1 else 0
def placeA (f : Ft) (ha : Nat → Nat) : Int := if f.k = 2 then f.a else ha f.a.toNat

theorem below_drewN' {B : Nat} {w w' : World} (h : Below B w w') (n : Nat) : Below B w (w'.drewN n) := ⟨h.os, h.tape, h.output, h.size, h.block⟩
/-- The head of a function that takes a fact and a row. -/
theorem open_fr (w : World) (f : Ft) (n T : Nat) (c : Nat → Value) : ∃ w2, w2 = (w.alloc (.cells #[.int .i64 f.k, .int .i64 f.a] 122)).alloc (.cells (rowA n c) T) ∧ At2 w2 w.heap.size 0 f ∧ Hid (Rowd w2 (w.heap.size + 1) T n c) ∧ Hid (Below w.heap.size w w2) := by
  refine ⟨_, rfl, ?_, two_new _ _ _, ?_⟩
  · exact (at2_new w f _ rfl).below (below_alloc _ _) (by simp)
  · exact (below_alloc _ _).alloc (by simp) _

set_option maxRecDepth 100000 in
set_option maxHeartbeats 4000000 in
theorem can_any (f : Ft) (s : Nat → Bool) (w : World) (h3 : f.k = 3 → 0 ≤ f.a ∧ f.a < 12) :
    Calls Tryd.prog 57 #[.agg #[.int .i64 f.k, .int .i64 f.a], .agg (rowA 12 (setV s))] w fun e w' => e = .returned (.bool (canB f s)) ∧ Below w.heap.size w w' := by
  obtain ⟨w2, hw2, ⟨q0, q1⟩, HC, HB⟩ := open_fr w f 12 77 (setV s)
  have HW := hide hw2
  clear hw2
  go_enter Tryd.func57, Tryd.ntmps57
  go_upto_region 1 with fail
  rw [← unhide HW]
  by_cases h2 : f.k = 2
  · have HR := hide (show canB f s = true by unfold canB; rw [h2]; rfl)
    rw [h2] at q0
    clear h2
    go_wp2_with fail
    go_ret
    exact ⟨ret_bool (unhide HR).symm, unhide HB⟩
  have g2 : (f.k == 2) = false := by rw [beq_eq_false_iff_ne]; exact h2
  by_cases hk : f.k = 3
  · obtain ⟨a0, a1⟩ := h3 hk
    obtain ⟨an, han⟩ : ∃ an : Nat, f.a = an := ⟨f.a.toNat, by omega⟩
    have c := (unhide HC).cell (show an < 12 by omega)
    unfold setV at c
    have ai : (an : Int) < 12 := by omega
    have HR := hide (show canB f s = s an by unfold canB; rw [hk, han]; simp)
    rw [hk] at q0
    rw [han] at q1
    clear h2 hk han h3 a0 a1 g2
    go_wp2_with fail
    go_ret
    exact ⟨ret_bool (unhide HR).symm, unhide HB⟩
  · have g3 : (f.k == 3) = false := by rw [beq_eq_false_iff_ne]; exact hk
    have HR := hide (show canB f s = false by unfold canB; rw [g2, g3]; rfl)
    clear h2 hk h3
    go_wp2_with fail
    go_ret
    exact ⟨ret_bool (unhide HR).symm, unhide HB⟩

set_option maxRecDepth 100000 in
set_option maxHeartbeats 4000000 in
theorem place_any (f : Ft) (hs : Nat → Bool) (ha : Nat → Nat) (w : World) (h3 : f.k ≠ 2 → 0 ≤ f.a ∧ f.a < 12) :
    Calls Tryd.prog 58 #[.agg #[.int .i64 f.k, .int .i64 f.a], .agg (rowA 24 (homV hs ha))] w fun e w' => e = .returned (.tuple #[.int .i64 (placeK f hs), .int .i64 (placeA f ha)]) ∧ Below w.heap.size w w' := by
  obtain ⟨w2, hw2, ⟨q0, q1⟩, HC, HB⟩ := open_fr w f 24 85 (homV hs ha)
  have HW := hide hw2
  clear hw2
  go_enter Tryd.func58, Tryd.ntmps58
  go_upto_region 1 with fail
  rw [← unhide HW]
  by_cases h2 : f.k = 2
  · have HR := hide (show placeK f hs = 2 ∧ placeA f ha = f.a by unfold placeK placeA; rw [if_pos h2, if_pos h2]; exact ⟨rfl, rfl⟩)
    rw [h2] at q0
    clear h2
    go_wp2_with fail
    go_quiet (fail)
    go_wp2_with fail
    go_ret2
    exact ⟨ret2 (unhide HR).1.symm (unhide HR).2.symm, below_drewN' (unhide HB) _⟩
  have g2 : (f.k == 2) = false := by rw [beq_eq_false_iff_ne]; exact h2
  obtain ⟨a0, a1⟩ := h3 h2
  obtain ⟨an, han⟩ : ∃ an : Nat, f.a = an := ⟨f.a.toNat, by omega⟩
  have c0 := hom_s (unhide HC) (r := an) (by omega)
  have c1 := hom_a (unhide HC) (r := an) (by omega)
  have ai : (an : Int) < 12 := by omega
  obtain ⟨b, hb⟩ : ∃ b, b = hs an := ⟨_, rfl⟩
  rw [← hb] at c0
  rw [han] at q1
  cases b
  · have HR := hide (show placeK f hs = 0 ∧ placeA f ha = ha an by unfold placeK placeA; rw [if_neg h2, if_neg h2, han, Int.toNat_natCast, ← hb]; exact ⟨rfl, rfl⟩)
    clear h2 hb han h3 a0 a1
    go_wp2_with fail
    go_quiet (fail)
    go_wp2_with fail
    go_ret2
    exact ⟨ret2 (unhide HR).1.symm (unhide HR).2.symm, below_drewN' (unhide HB) _⟩
  · have HR := hide (show placeK f hs = 1 ∧ placeA f ha = ha an by unfold placeK placeA; rw [if_neg h2, if_neg h2, han, Int.toNat_natCast, ← hb]; exact ⟨rfl, rfl⟩)
    clear h2 hb han h3 a0 a1
    go_wp2_with fail
    go_quiet (fail)
    go_wp2_with fail
    go_ret2
    exact ⟨ret2 (unhide HR).1.symm (unhide HR).2.symm, below_drewN' (unhide HB) _⟩

/-- Does a range go on with another? -/
def goesB (a b : Rg) : Bool := a.v == b.v && a.t == b.f && a.k == b.k && a.a == b.a
set_option maxRecDepth 100000 in
set_option maxHeartbeats 4000000 in
theorem goesOn_any (a b : Rg) (w : World) :
    Calls Tryd.prog 80 #[.agg #[.int .i64 a.v, .int .i64 a.f, .int .i64 a.t, .int .i64 a.k, .int .i64 a.a], .agg #[.int .i64 b.v, .int .i64 b.f, .int .i64 b.t, .int .i64 b.k, .int .i64 b.a]] w fun e w' => e = .returned (.bool (goesB a b)) ∧ Below w.heap.size w w' := by
  have HG := hide (show goesB a b = (a.v == b.v && a.t == b.f && a.k == b.k && a.a == b.a) from rfl)
  obtain ⟨v1, f1, t1, k1, a1⟩ := a
  obtain ⟨v2, f2, t2, k2, a2⟩ := b
  simp only at HG ⊢
  by_cases h1 : v1 = v2
  case neg =>
    have g1 : (v1 == v2) = false := by rw [beq_eq_false_iff_ne]; exact h1
    rw [g1] at HG
    clear h1
    go_enter Tryd.func80, Tryd.ntmps80
    go_wp2
    go_ret
    exact ⟨ret_bool (by rw [unhide HG]; rfl), ((Below.refl _ _).alloc (Nat.le_refl _) _).alloc (by simp) _⟩
  by_cases h2 : t1 = f2
  case neg =>
    have g2 : (t1 == f2) = false := by rw [beq_eq_false_iff_ne]; exact h2
    rw [g2] at HG
    subst h1
    clear h2
    go_enter Tryd.func80, Tryd.ntmps80
    go_wp2
    go_ret
    exact ⟨ret_bool (by rw [unhide HG]; simp), ((Below.refl _ _).alloc (Nat.le_refl _) _).alloc (by simp) _⟩
  by_cases h3 : k1 = k2
  case neg =>
    have g3 : (k1 == k2) = false := by rw [beq_eq_false_iff_ne]; exact h3
    rw [g3] at HG
    subst h1 h2
    clear h3
    go_enter Tryd.func80, Tryd.ntmps80
    go_wp2
    go_ret
    exact ⟨ret_bool (by rw [unhide HG]; simp), ((Below.refl _ _).alloc (Nat.le_refl _) _).alloc (by simp) _⟩
  subst h1 h2 h3
  go_enter Tryd.func80, Tryd.ntmps80
  go_wp2
  go_ret
  exact ⟨ret_bool (by rw [unhide HG]; simp), ((Below.refl _ _).alloc (Nat.le_refl _) _).alloc (by simp) _⟩
end Go.Proofs.YtoepcplbpochpabDoor

/-
  What (*code.Run).Do does to a run: one instruction, as far as programs and units have it in common.
-/
namespace Go.Proofs.YtoepcplbpochpabDoor
open Go.RowKit

/-- A run in memory: its block, and the two lists that it owns. -/
def Inv (w : World) (B : Nat) (s : St) (vo vs : Value) : Prop :=
  StB w B s vo vs ∧ w.ownsRow (B + 1) 3 1 vo s.outs.length (intCells s.outs) ∧ w.ownsRow (B + 1) 57 5 vs s.stops.length (snCells s.stops)
theorem Inv.turn {w w' : World} {B : Nat} {s s' : St} {vo vs : Value} (h : Inv w B s vo vs) (hb : StB w' B s' vo vs) (hk : Keep (fun k => k = B) w w') (ho : s'.outs = s.outs) (hs : s'.stops = s.stops) : Inv w' B s' vo vs := by
  refine ⟨hb, ?_, ?_⟩
  · rw [ho]; exact own_keep h.2.1 hk (fun g hg e => by have := (own_in h.2.1 g hg).1; omega)
  · rw [hs]; exact own_keep h.2.2 hk (fun g hg e => by have := (own_in h.2.2 g hg).1; omega)
/-- What an instruction leaves behind. -/
def DoPost (w : World) (B : Nat) (s' : St) (vo vs : Value) (e : Ending) (w' : World) : Prop :=
  e = .returned (.tuple #[]) ∧ (∃ vo', Inv w' B s' vo' vs) ∧ Keep (fun k => k = B ∨ some k = vo.ownBlock) w w'
theorem DoPost.of {w w' : World} {B : Nat} {s s' : St} {vo vs : Value} (h : Inv w B s vo vs) (hb : StB w' B s' vo vs) (hk : Keep (fun k => k = B) w w') (ho : s'.outs = s.outs) (hs : s'.stops = s.stops) : DoPost w B s' vo vs (.returned (.tuple #[])) w' :=
  ⟨rfl, ⟨vo, h.turn hb hk ho hs⟩, hk.mono (fun _ _ e => .inl e)⟩

theorem reckon_outs (s : St) (op : Int) (d a b : Nat) : (s.reckon op d a b).outs = s.outs := by unfold St.reckon; split <;> rfl
theorem reckon_stops (s : St) (op : Int) (d a b : Nat) : (s.reckon op d a b).stops = s.stops := by unfold St.reckon; split <;> rfl

theorem Tryd.info3 : (Tryd.prog.info? 3).map (fun i => (i.zero, i.size, i.bytes)) = some (some (.int .i64 0), 1, 8) := by kernel_rfl
theorem Tryd.info57 : (Tryd.prog.info? 57).map (fun i => (i.zero, i.size, i.bytes)) = some (some (.agg #[.int .i64 0, .int .i64 0, .int .i64 0, .int .i64 0, .int .i64 0]), 5, 40) := by kernel_rfl

theorem grown_block {a b c : World} {row : Option Nat} {B : Nat} (hk : Keep (fun _ => False) a b) (hg : b.grownBy c row) (hne : some B ≠ row) (hlt : B < a.heap.size) : c.heap[B]? = a.heap[B]? :=
  (hg.block B (Nat.lt_of_lt_of_le hlt hk.size) hne).trans (hk.block B hlt (fun h => h))

theorem DoPost.drew {w w' : World} {B : Nat} {s : St} {vo vs : Value} {e : Ending} (h : DoPost w B s vo vs e w') : DoPost w B s vo vs e w'.drew := by
  obtain ⟨h1, ⟨vo', h2, h3, h4⟩, h5⟩ := h
  exact ⟨h1, ⟨vo', h2.drew, h3.drew, h4.drew⟩, h5.drew⟩
theorem out_post {w w2 wz w3 : World} {B : Nat} {s : St} {vo vs v' : Value} {y : Int} (hI2 : Inv w2 B s.next vo vs) (hK2 : Keep (fun k => k = B) w w2) (hz : Keep (fun _ => False) w2 wz) (hg : wz.grownBy w3 vo.ownBlock)
    (hown : w3.ownsRow (B + 1) 3 1 v' (s.outs.length + 1) (intCells s.outs ++ [.int .i64 y])) : DoPost w B (s.next.out y) vo vs (.returned (.tuple #[])) (w3.setCell ⟨B, 21, none⟩ v') := by
  have hB2 := hI2.1.lt
  have hne : some B ≠ vo.ownBlock := fun e => by have := (own_in hI2.2.1 B e.symm).1; omega
  have hbl := grown_block hz hg hne hB2
  have hk3 : Keep (fun k => some k = vo.ownBlock) w2 w3 := (hz.mono (fun _ _ h => h.elim)).grown hg (fun k e _ => e.symm)
  have hkB : Keep (fun k => k = B) w3 (w3.setCell ⟨B, 21, none⟩ v') := keep_set (Keep.refl _ _) _ _
  refine ⟨rfl, ⟨v', ((hI2.1.of_block hbl).set_outs v' y), ?_, ?_⟩, ?_⟩
  · show World.ownsRow _ _ _ _ _ ((s.outs ++ [y]).length) (intCells (s.outs ++ [y]))
    rw [List.length_append, intCells_snoc]
    exact own_keep hown hkB (fun g hg e => by have := (own_in hown g hg).1; omega)
  · have hs3 := own_keep hI2.2.2 hk3 (fun g hg e => own_apart hI2.2.2 hI2.2.1 (by decide) g hg e.symm)
    exact own_keep hs3 hkB (fun g hg e => by have := (own_in hs3 g hg).1; omega)
  · exact ((hK2.mono (T := fun k => k = B ∨ some k = vo.ownBlock) (fun _ _ h => .inl h)).trans hk3 (fun _ _ h => .inr h)).trans hkB (fun _ _ h => .inl h)

/-- The world in which the instruction's own work begins. -/
def doW (w : World) (B : Nat) (s : St) (op d a b : Int) : World :=
  ((w.setCell ⟨B, 20, none⟩ (.int .i64 ((s.steps : Int) + 1))).setCell ⟨B, 16, none⟩ (.int .i64 ((s.at_ : Int) + 1))).alloc (.cells #[.int .i64 op, .int .i64 d, .int .i64 a, .int .i64 b] 31)
theorem do_open {w : World} {B : Nat} {s : St} {vo vs : Value} (op d a b : Int) (h : Inv w B s vo vs) :
    ∃ w2, w2 = doW w B s op d a b ∧ Hid (Inv w2 B s.next vo vs) ∧ Hid (Keep (fun k => k = B) w w2) ∧
      w2.cell? ⟨w.heap.size, 0, none⟩ = some (.int .i64 op) ∧ w2.cell? ⟨w.heap.size, 1, none⟩ = some (.int .i64 d) ∧ w2.cell? ⟨w.heap.size, 2, none⟩ = some (.int .i64 a) ∧ w2.cell? ⟨w.heap.size, 3, none⟩ = some (.int .i64 b) ∧
      w2.heap.size = w.heap.size + 1 ∧ (∀ o, w2.frozen? ⟨B, o, none⟩ = false) ∧ (∀ i, i < 16 → w2.cell? ⟨B, i, none⟩ = some (.int .i64 (s.regs i))) ∧ w2.cell? ⟨B, 16, none⟩ = some (.int .i64 ((s.at_ : Int) + 1)) := by
  have hk : Keep (fun k => k = B) w (doW w B s op d a b) := (keep_set (keep_set (Keep.refl _ _) _ _) _ _).alloc _
  have hsz : ((w.setCell ⟨B, 20, none⟩ (.int .i64 ((s.steps : Int) + 1))).setCell ⟨B, 16, none⟩ (.int .i64 ((s.at_ : Int) + 1))).heap.size = w.heap.size := by simp
  have hb : StB (doW w B s op d a b) B s.next vo vs := (h.1.set_next).of_block (Below.heap_alloc _ _ _ (by rw [hsz]; exact h.1.lt))
  have hi := h.turn hb hk rfl rfl
  have q : ∀ i, (doW w B s op d a b).cell? ⟨w.heap.size, i, none⟩ = #[Value.int .i64 op, .int .i64 d, .int .i64 a, .int .i64 b][i]? := fun i => World.cell?_alloc_at (hn := hsz.symm) ..
  refine ⟨_, rfl, hi, hk, (q 0).trans rfl, (q 1).trans rfl, (q 2).trans rfl, (q 3).trans rfl, ?_, hb.2.2.2.2.2.2.2.2.2.1, hb.1, ?_⟩
  · unfold doW; simp
  · have := hb.2.2.1; rw [this]; show some (Value.int .i64 ((s.at_ + 1 : Nat) : Int)) = _; rw [Int.natCast_succ]

set_option maxRecDepth 100000 in
set_option maxHeartbeats 8000000 in
theorem do_any (B : Nat) (s : St) (vo vs : Value) (x : In4) (R n V : Int) (w : World) (h : Inv w B s vo vs) (hx : Right R n V x) (hR : R ≤ 16)
    (hv : ∀ i, i < 16 → 0 ≤ s.regs i ∧ s.regs i ≤ 65535) (hat : s.at_ ≤ 1000) (hst : s.steps ≤ 100000) (hol : s.outs.length ≤ 100000) :
    Calls Tryd.prog 45 #[.pointer (some ⟨B, 0, none⟩), .agg #[.int .i64 x.op, .int .i64 x.d, .int .i64 x.a, .int .i64 x.b]] w (DoPost w B (doSt x s) vo vs) := by
  have hB := h.1.lt
  obtain ⟨op, d, a, b⟩ := x
  obtain ⟨o0, o1, rD, rA, rB, rC, rJ, rI, rS, rV, _, _⟩ := hx
  simp only at o0 o1 rD rA rB rC rJ rI rS rV ⊢
  have HI := hide h
  have HV := hide hv
  have HRD := hide rD
  have HRA := hide rA
  have HRB := hide rB
  have HRC := hide rC
  have HRJ := hide rJ
  have HRI := hide rI
  have HRS := hide rS
  have HRV := hide rV
  clear h hv rD rA rB rC rJ rI rS rV
  have hk : ∀ (wq : World) (j o : Nat) (z : Value), (wq.setCell ⟨B, j, none⟩ z).cell? ⟨w.heap.size, o, none⟩ = wq.cell? ⟨w.heap.size, o, none⟩ := fun wq j o z => World.cell?_setCell_other _ _ _ _ (fun e => by injection e with e1; omega)
  have c16 : w.cell? ⟨B, 16, none⟩ = some (.int .i64 (s.at_ : Int)) := (unhide HI).1.2.2.1
  have c20 : w.cell? ⟨B, 20, none⟩ = some (.int .i64 (s.steps : Int)) := (unhide HI).1.2.2.2.2.2.2.1
  have hf : ∀ o, w.frozen? ⟨B, o, none⟩ = false := (unhide HI).1.2.2.2.2.2.2.2.2.2.1
  rcases (show op = 0 ∨ op = 1 ∨ (2 ≤ op ∧ op ≤ 6) ∨ op = 7 ∨ op = 8 ∨ op = 9 ∨ op = 10 ∨ (11 ≤ op ∧ op ≤ 16) by omega) with rfl | rfl | ho | rfl | rfl | rfl | rfl | ho
  -- Const
  · obtain ⟨d0, d1⟩ := unhide HRD (.inl rfl)
    obtain ⟨a0, a1⟩ := unhide HRC (.inl rfl)
    obtain ⟨dn, rfl⟩ : ∃ dn : Nat, d = dn := ⟨d.toNat, by omega⟩
    have d2 : (dn : Int) < 16 := by omega
    go_enter Tryd.func45, Tryd.ntmps45
    go_wp2_with fail
    obtain ⟨w2, hw2, HI2, HK2, q0, q1, q2, q3, hz2, hf2, hc2, _⟩ := do_open 0 (dn : Int) a b (unhide HI)
    unfold doW at hw2
    rw [← hw2]
    have cd := hc2 dn (by omega)
    clear hw2 c16 c20 hf hc2
    go_region_held3 (fun w' => w'.cell? ⟨w.heap.size, 1, none⟩ = some (.int .i64 (dn : Int)) ∧ w'.cell? ⟨w.heap.size, 2, none⟩ = some (.int .i64 a)) (simp [*]) (fail)
    go_wp2_with fail
    go_returns
    exact DoPost.of (unhide HI) (((unhide HI2).1.set_reg dn (by omega) a).of_block rfl) ((keep_set (unhide HK2) _ _).drew) rfl rfl
  -- Copy
  · obtain ⟨d0, d1⟩ := unhide HRD (.inr (.inl rfl))
    obtain ⟨a0, a1⟩ := unhide HRA (.inl rfl)
    obtain ⟨dn, rfl⟩ : ∃ dn : Nat, d = dn := ⟨d.toNat, by omega⟩
    obtain ⟨an, rfl⟩ : ∃ an : Nat, a = an := ⟨a.toNat, by omega⟩
    have d2 : (dn : Int) < 16 := by omega
    have a2 : (an : Int) < 16 := by omega
    go_enter Tryd.func45, Tryd.ntmps45
    go_wp2_with fail
    obtain ⟨w2, hw2, HI2, HK2, q0, q1, q2, q3, hz2, hf2, hc2, _⟩ := do_open 1 (dn : Int) (an : Int) b (unhide HI)
    unfold doW at hw2
    rw [← hw2]
    obtain ⟨y, hy⟩ : ∃ y, y = s.regs an := ⟨_, rfl⟩
    have cd := hc2 dn (by omega)
    have ca := hc2 an (by omega)
    rw [← hy] at ca
    have HY := hide hy
    have hkc : ∀ wq : World, wq.cell? ⟨B, an, none⟩ = some (.int .i64 y) → (wq.setCell ⟨B, dn, none⟩ (.int .i64 y)).cell? ⟨B, an, none⟩ = some (.int .i64 y) := fun wq hq => by
      by_cases e : an = dn
      · subst e; exact cell_put hq
      · exact cell_set hq e
    clear hw2 c16 c20 hf hc2 hy
    go_region_held3 (fun w' => w'.cell? ⟨w.heap.size, 1, none⟩ = some (.int .i64 (dn : Int)) ∧ w'.cell? ⟨w.heap.size, 2, none⟩ = some (.int .i64 (an : Int)) ∧ w'.cell? ⟨B, an, none⟩ = some (.int .i64 y)) (simp [*]) (fail)
    go_wp2_with fail
    go_returns
    rw [unhide HY]
    exact DoPost.of (unhide HI) (((unhide HI2).1.set_reg dn (by omega) (s.regs an)).drew) ((keep_set (unhide HK2) _ _).drew) rfl rfl
  -- the arithmetic
  · obtain ⟨d0, d1⟩ := unhide HRD (.inr (.inr ho))
    obtain ⟨a0, a1⟩ := unhide HRA (.inr (.inl ho))
    obtain ⟨b0, b1⟩ := unhide HRB ho
    obtain ⟨dn, rfl⟩ : ∃ dn : Nat, d = dn := ⟨d.toNat, by omega⟩
    obtain ⟨an, rfl⟩ : ∃ an : Nat, a = an := ⟨a.toNat, by omega⟩
    obtain ⟨bn, rfl⟩ : ∃ bn : Nat, b = bn := ⟨b.toNat, by omega⟩
    have HD : Hid (doSt ⟨op, (dn : Int), (an : Int), (bn : Int)⟩ s = s.next.reckon op dn an bn) := by
      unfold Hid doSt
      simp only [Int.toNat_natCast]
      rw [if_neg (by omega), if_neg (by omega), if_neg (by omega), if_neg (by omega), if_neg (by omega), if_neg (by omega), if_pos ho]
    have KR := hide (fun w (h : StB w B s.next vo vs) => reckon_any B s.next vo vs op dn an bn w h (by omega) (by omega) (by omega) (by omega) (unhide HV an (by omega)).1 (unhide HV an (by omega)).2 (unhide HV bn (by omega)).1 (unhide HV bn (by omega)).2)
    clear HRD HRA HRB HRC HRJ HRI HRS HRV a0 a1 b0 b1 d0 d1
    rcases (show op = 2 ∨ op = 3 ∨ op = 4 ∨ op = 5 ∨ op = 6 by omega) with rfl | rfl | rfl | rfl | rfl
    all_goals
      obtain ⟨w2, hw2, HI2, HK2, q0, q1, q2, q3, hz2, hf2, hc2, _⟩ := do_open _ (dn : Int) (an : Int) (bn : Int) (unhide HI)
      have HW := hide hw2
      clear hw2 hc2
      go_enter Tryd.func45, Tryd.ntmps45
      go_wp2_with fail
      have hw2 := unhide HW
      unfold doW at hw2
      rw [← hw2]
      clear hw2 HW
      refine (unhide KR w2 (unhide HI2).1).mono ?_
      rintro e w3 ⟨rfl, HS3, HK3⟩
      have HP := hide (DoPost.of (unhide HI) HS3 ((unhide HK2).trans HK3 (fun _ _ h => h)) (reckon_outs _ _ _ _ _) (reckon_stops _ _ _ _ _))
      clear HS3 HK3
      go_wp2_with fail
      go_returns
      rw [unhide HD]
      exact unhide HP
  -- Jump
  · obtain ⟨a0, a1⟩ := unhide HRJ rfl
    obtain ⟨an, rfl⟩ : ∃ an : Nat, a = an := ⟨a.toNat, by omega⟩
    clear HRD HRA HRB HRC HRJ HRI HRS HRV
    go_enter Tryd.func45, Tryd.ntmps45
    go_wp2_with fail
    go_returns
    refine DoPost.of (s' := s.next.goto an) (unhide HI) ((((unhide HI).1.set_next).set_at an).of_block (Below.heap_alloc _ _ _ (by simp; exact hB))) ((keep_set (keep_set (keep_set (Keep.refl _ _) _ _) _ _) _ _).alloc _) rfl rfl
  -- If
  · obtain ⟨a0, a1⟩ := unhide HRA (.inr (.inr (.inl rfl)))
    obtain ⟨b0, b1⟩ := unhide HRI rfl
    obtain ⟨an, rfl⟩ : ∃ an : Nat, a = an := ⟨a.toNat, by omega⟩
    obtain ⟨bn, rfl⟩ : ∃ bn : Nat, b = bn := ⟨b.toNat, by omega⟩
    have a2 : (an : Int) < 16 := by omega
    clear HRD HRA HRB HRC HRJ HRI HRS HRV
    go_enter Tryd.func45, Tryd.ntmps45
    go_wp2_with fail
    obtain ⟨w2, hw2, HI2, HK2, q0, q1, q2, q3, hz2, hf2, hc2, c16'⟩ := do_open 8 d (an : Int) (bn : Int) (unhide HI)
    unfold doW at hw2
    rw [← hw2]
    obtain ⟨y, hy⟩ : ∃ y, y = s.regs an := ⟨_, rfl⟩
    have ca := hc2 an (by omega)
    rw [← hy] at ca
    have HY := hide hy
    clear hw2 c16 c20 hf hc2 hy
    go_region_held3 (fun w' => w'.cell? ⟨w.heap.size, 2, none⟩ = some (.int .i64 (an : Int)) ∧ w'.cell? ⟨B, an, none⟩ = some (.int .i64 y)) (simp [*]) (fail)
    by_cases hy0 : y = 0
    · subst hy0
      go_wp2_with fail
      go_returns
      have e : doSt ⟨8, d, (an : Int), (bn : Int)⟩ s = s.next := by show (if s.regs an = 0 then _ else _) = _; rw [if_pos (unhide HY).symm]
      rw [e]
      exact DoPost.of (unhide HI) (unhide HI2).1.drew (unhide HK2).drew rfl rfl
    · have hy1 : (y != 0) = true := by rw [bne_iff_ne]; exact hy0
      have e := hide (show doSt ⟨8, d, (an : Int), (bn : Int)⟩ s = s.next.goto bn by show (if s.regs an = 0 then _ else _) = _; rw [if_neg (fun h => hy0 ((unhide HY).trans h))]; rfl)
      go_wp2_with fail
      go_returns
      rw [unhide e]
      exact DoPost.of (unhide HI) ((unhide HI2).1.set_at bn).drew (keep_set (unhide HK2) _ _).drew rfl rfl
  -- Out
  · obtain ⟨a0, a1⟩ := unhide HRA (.inr (.inr (.inr (.inl rfl))))
    obtain ⟨an, rfl⟩ : ∃ an : Nat, a = an := ⟨a.toNat, by omega⟩
    have a2 : (an : Int) < 16 := by omega
    clear HRD HRA HRB HRC HRJ HRI HRS HRV
    go_enter Tryd.func45, Tryd.ntmps45
    go_wp2_with fail
    obtain ⟨w2, hw2, HI2, HK2, q0, q1, q2, q3, hz2, hf2, hc2, c16'⟩ := do_open 9 d (an : Int) b (unhide HI)
    unfold doW at hw2
    rw [← hw2]
    obtain ⟨y, hy⟩ : ∃ y, y = s.regs an := ⟨_, rfl⟩
    have ca := hc2 an (by omega)
    rw [← hy] at ca
    have HY := hide hy
    have c21 : w2.cell? ⟨B, 21, none⟩ = some vo := (unhide HI2).1.2.2.2.2.2.2.2.1
    have hB2 : B < w2.heap.size := (unhide HI2).1.lt
    have HH2 : w.heap.size < w2.heap.size := by omega
    have HO := hide (unhide HI2).2.1
    have HN : Hid (some B ≠ vo.ownBlock) := fun e => by have := (own_in (unhide HO) B e.symm).1; omega
    have HN2 : Hid (some w.heap.size ≠ vo.ownBlock) := fun e => by have := (own_in (unhide HI).2.1 _ e.symm).2; omega
    obtain ⟨i0, hi, hz0, hz1, hz2'⟩ := info_parts Tryd.info3
    clear hw2 c16 c20 hf hc2 hy hz2 c16' q0 q1 q3
    go_region_law ((refine step_append_lies _ (by rfl) _ _ _ (by rfl) (B + 1) 3 i0 _ 1 8 Tryd.underlying25 hi hz0 hz1 hz2' rfl (by omega) vo s.outs.length (intCells s.outs) (by rfl) (own_keep (unhide HO) (S := fun _ => False) (by repeat first | exact Keep.refl _ _ | refine Keep.drew ?_ | refine Keep.alloc ?_ _) (fun _ _ h => h)) ⟨w2.heap.size, 0, none⟩ 1 1 [.int .i64 y] (by rfl) (by rfl) (World.news_of_block (cs := #[.int .i64 y]) (t := 3) (fr := (0, 0)) (heap_alloc_new _ _)) (by simp [Value.oneCell']) (by omega) (by unfold maxLen; omega) (by omega) (by simp; omega) (w2.heap.size + 1) (by simp) ?_; intro g cap w3 hown3 hgrow hat3 hlt3; have HBL := hide (grown_block (a := w2) (by repeat first | exact Keep.refl _ _ | refine Keep.drew ?_ | refine Keep.alloc ?_ _) hgrow (unhide HN) hB2); have b21 : w3.cell? ⟨B, 21, none⟩ = some vo := (World.cell?_of_block (unhide HBL)).trans c21; have bf : w3.frozen? ⟨B, 21, none⟩ = false := (World.frozen?_of_block (unhide HBL)).trans (hf2 21)))
    all_goals go_wp2_with fail
    all_goals go_returns
    all_goals
      have hP := out_post (unhide HI2) (unhide HK2) (by repeat first | exact Keep.refl _ _ | refine Keep.drew ?_ | refine Keep.alloc ?_ _) hgrow hown3
      rw [unhide HY] at hP
      first | exact hP | exact hP.drew | exact hP.drew.drew
  -- Return
  · obtain ⟨a0, a1⟩ := unhide HRA (.inr (.inr (.inr (.inr (.inl rfl)))))
    obtain ⟨an, rfl⟩ : ∃ an : Nat, a = an := ⟨a.toNat, by omega⟩
    have a2 : (an : Int) < 16 := by omega
    clear HRD HRA HRB HRC HRJ HRI HRS HRV
    go_enter Tryd.func45, Tryd.ntmps45
    go_wp2_with fail
    obtain ⟨w2, hw2, HI2, HK2, q0, q1, q2, q3, hz2, hf2, hc2, c16'⟩ := do_open 10 d (an : Int) b (unhide HI)
    unfold doW at hw2
    rw [← hw2]
    obtain ⟨y, hy⟩ : ∃ y, y = s.regs an := ⟨_, rfl⟩
    have ca := hc2 an (by omega)
    rw [← hy] at ca
    have HY := hide hy
    have KE := hide (fun w (h : StB w B s.next vo vs) => end_any B s.next vo vs 0 y w h)
    have hZ : w.heap.size < w2.heap.size := by omega
    have hne : w.heap.size ≠ B := by omega
    clear hw2 c16 c20 hf hc2 hy hz2 c16'
    go_region_held3 (fun w' => w'.cell? ⟨w.heap.size, 2, none⟩ = some (.int .i64 (an : Int)) ∧ w'.cell? ⟨B, an, none⟩ = some (.int .i64 y)) (simp [*])
      ((go_at_call 65; refine (unhide KE _ ?_).mono ?_; exact (unhide HI2).1.of_block rfl; rintro e w3 ⟨rfl, HS3, HK3⟩; have t2 : w3.cell? ⟨w.heap.size, 2, none⟩ = some (.int .i64 (an : Int)) := (World.cell?_of_block (HK3.block w.heap.size hZ hne)).trans q2; have ta : w3.cell? ⟨B, an, none⟩ = some (.int .i64 y) := (by rw [unhide HY]; exact HS3.1 an (by omega)); have HP := hide (DoPost.of (unhide HI) HS3 ((unhide HK2).drew.trans HK3 (fun _ _ h => h)) rfl rfl); clear HS3 HK3))
    go_wp2_with fail
    go_returns
    have hP := unhide HP
    rw [unhide HY] at hP
    first | exact hP | exact hP.drew
  -- the others
  · obtain ⟨w2, hw2, HI2, HK2, _, _, _, _, _, _, _, _⟩ := do_open op d a b (unhide HI)
    have HW := hide hw2
    have HD : Hid (doSt ⟨op, d, a, b⟩ s = s.next) := by
      unfold Hid doSt
      simp only
      rw [if_neg (by omega), if_neg (by omega), if_neg (by omega), if_neg (by omega), if_neg (by omega), if_neg (by omega), if_neg (by omega)]
    clear HRD HRA HRB HRC HRJ HRI HRS HRV hw2
    rcases (show op = 11 ∨ op = 12 ∨ op = 13 ∨ op = 14 ∨ op = 15 ∨ op = 16 by omega) with rfl | rfl | rfl | rfl | rfl | rfl
    all_goals
      go_enter Tryd.func45, Tryd.ntmps45
      go_wp2_with fail
      go_returns
      have hw2 := unhide HW
      unfold doW at hw2
      rw [← hw2, unhide HD]
      exact DoPost.of (unhide HI) (unhide HI2).1 (unhide HK2) rfl rfl
end Go.Proofs.YtoepcplbpochpabDoor

/-
  What is seen at a Stop: (*code.Run).See.
-/
namespace Go.Proofs.YtoepcplbpochpabDoor
open Go.RowKit

/-- What a Stop leaves behind. -/
def SeePost (w : World) (B : Nat) (s' : St) (vo vs : Value) (e : Ending) (w' : World) : Prop :=
  e = .returned (.tuple #[]) ∧ (∃ vs', Inv w' B s' vo vs') ∧ Keep (fun k => k = B ∨ some k = vs.ownBlock) w w'
theorem SeePost.drew {w w' : World} {B : Nat} {s : St} {vo vs : Value} {e : Ending} (h : SeePost w B s vo vs e w') : SeePost w B s vo vs e w'.drew := by
  obtain ⟨h1, ⟨vs', h2, h3, h4⟩, h5⟩ := h
  exact ⟨h1, ⟨vs', h2.drew, h3.drew, h4.drew⟩, h5.drew⟩
theorem see_post {w w2 wz w3 : World} {B : Nat} {s : St} {vo vs v' : Value} {n : Int} (hI2 : Inv w2 B s vo vs) (hK2 : Keep (fun _ => False) w w2) (hz : Keep (fun _ => False) w2 wz) (hg : wz.grownBy w3 vs.ownBlock)
    (hown : w3.ownsRow (B + 1) 57 5 v' (s.stops.length + 1) (snCells s.stops ++ [.int .i64 n, .int .i64 (s.tell 0), .int .i64 (s.tell 1), .int .i64 (s.tell 2), .int .i64 (s.tell 3)])) : SeePost w B (s.see n) vo vs (.returned (.tuple #[])) (w3.setCell ⟨B, 22, none⟩ v') := by
  have hB2 := hI2.1.lt
  have hne : some B ≠ vs.ownBlock := fun e => by have := (own_in hI2.2.2 B e.symm).1; omega
  have hbl := grown_block hz hg hne hB2
  have hk3 : Keep (fun k => some k = vs.ownBlock) w2 w3 := (hz.mono (fun _ _ h => h.elim)).grown hg (fun k e _ => e.symm)
  have hkB : Keep (fun k => k = B) w3 (w3.setCell ⟨B, 22, none⟩ v') := keep_set (Keep.refl _ _) _ _
  refine ⟨rfl, ⟨v', ((hI2.1.of_block hbl).set_stops v' n), ?_, ?_⟩, ?_⟩
  · have hs3 := own_keep hI2.2.1 hk3 (fun g hg e => own_apart hI2.2.1 hI2.2.2 (by decide) g hg e.symm)
    exact own_keep hs3 hkB (fun g hg e => by have := (own_in hs3 g hg).1; omega)
  · show World.ownsRow _ _ _ _ _ ((s.stops ++ [_]).length) (snCells (s.stops ++ [_]))
    rw [List.length_append, snCells_snoc]
    exact own_keep hown hkB (fun g hg e => by have := (own_in hown g hg).1; omega)
  · exact ((hK2.mono (T := fun k => k = B ∨ some k = vs.ownBlock) (fun _ _ h => h.elim)).trans hk3 (fun _ _ h => .inr h)).trans hkB (fun _ _ h => .inl h)

set_option maxRecDepth 100000 in
set_option maxHeartbeats 4000000 in
theorem see_any (B : Nat) (s : St) (vo vs : Value) (n v0 v1 v2 v3 : Int) (w : World) (h : Inv w B s vo vs) (e0 : s.tell 0 = v0) (e1 : s.tell 1 = v1) (e2 : s.tell 2 = v2) (e3 : s.tell 3 = v3) (hl : s.stops.length ≤ 100000) :
    Calls Tryd.prog 44 #[.pointer (some ⟨B, 0, none⟩), .int .i64 n, .agg #[.int .i64 v0, .int .i64 v1, .int .i64 v2, .int .i64 v3]] w (SeePost w B (s.see n) vo vs) := by
  have hB := h.1.lt
  have HI := hide h
  have HE0 := hide e0
  have HE1 := hide e1
  have HE2 := hide e2
  have HE3 := hide e3
  clear h e0 e1 e2 e3
  go_enter Tryd.func44, Tryd.ntmps44
  go_wp2_with fail
  obtain ⟨w2, hw2⟩ : ∃ w2, w2 = w.alloc (.cells #[.int .i64 v0, .int .i64 v1, .int .i64 v2, .int .i64 v3] 55) := ⟨_, rfl⟩
  rw [← hw2]
  have HK2 : Hid (Keep (fun _ => False) w w2) := by rw [hw2]; exact (Keep.refl _ _).alloc _
  have q : ∀ i, w2.cell? ⟨w.heap.size, i, none⟩ = #[Value.int .i64 v0, .int .i64 v1, .int .i64 v2, .int .i64 v3][i]? := fun i => by rw [hw2, World.cell?_alloc_at (hn := rfl)]
  have q0 : w2.cell? ⟨w.heap.size, 0, none⟩ = some (.int .i64 v0) := (q 0).trans rfl
  have q1 : w2.cell? ⟨w.heap.size, 1, none⟩ = some (.int .i64 v1) := (q 1).trans rfl
  have q2 : w2.cell? ⟨w.heap.size, 2, none⟩ = some (.int .i64 v2) := (q 2).trans rfl
  have q3 : w2.cell? ⟨w.heap.size, 3, none⟩ = some (.int .i64 v3) := (q 3).trans rfl
  have HI2 : Hid (Inv w2 B s vo vs) := ⟨(unhide HI).1.of_block ((unhide HK2).block B hB (fun h => h)), own_keep (unhide HI).2.1 (unhide HK2) (fun _ _ h => h), own_keep (unhide HI).2.2 (unhide HK2) (fun _ _ h => h)⟩
  have c22 : w2.cell? ⟨B, 22, none⟩ = some vs := (unhide HI2).1.2.2.2.2.2.2.2.2.1
  have hf2 : ∀ o, w2.frozen? ⟨B, o, none⟩ = false := (unhide HI2).1.2.2.2.2.2.2.2.2.2.1
  have hB2 : B < w2.heap.size := (unhide HI2).1.lt
  have hZ : w.heap.size < w2.heap.size := by rw [hw2]; simp
  have HO := hide (unhide HI2).2.2
  have HN : Hid (some B ≠ vs.ownBlock) := fun e => by have := (own_in (unhide HO) B e.symm).1; omega
  obtain ⟨i0, hi, hz0, hz1, hz2'⟩ := info_parts Tryd.info57
  clear hw2 q
  go_region_law ((refine step_append_lies _ (by rfl) _ _ _ (by rfl) (B + 1) 57 i0 _ 5 40 Tryd.underlying36 hi hz0 hz1 hz2' rfl (by omega) vs s.stops.length (snCells s.stops) (by rfl) (own_keep (unhide HO) (S := fun _ => False) (by repeat first | exact Keep.refl _ _ | refine Keep.drew ?_ | refine Keep.alloc ?_ _) (fun _ _ h => h)) ⟨w2.heap.size, 0, none⟩ 1 1 [.int .i64 n, .int .i64 v0, .int .i64 v1, .int .i64 v2, .int .i64 v3] (by rfl) (by rfl) (World.news_of_block (cs := #[.int .i64 n, .int .i64 v0, .int .i64 v1, .int .i64 v2, .int .i64 v3]) (t := 57) (fr := (0, 0)) (heap_alloc_new _ _)) (by simp [Value.oneCell']) (by omega) (by unfold maxLen; omega) (by omega) (by simp; omega) (w2.heap.size + 1) (by simp) ?_; intro g cap w3 hown3 hgrow hat3 hlt3; have HBL := hide (grown_block (a := w2) (by repeat first | exact Keep.refl _ _ | refine Keep.drew ?_ | refine Keep.alloc ?_ _) hgrow (unhide HN) hB2); have b22 : w3.cell? ⟨B, 22, none⟩ = some vs := (World.cell?_of_block (unhide HBL)).trans c22; have bf : w3.frozen? ⟨B, 22, none⟩ = false := (World.frozen?_of_block (unhide HBL)).trans (hf2 22)))
  all_goals go_wp2_with fail
  all_goals go_returns
  all_goals
    rw [← unhide HE0, ← unhide HE1, ← unhide HE2, ← unhide HE3] at hown3
    have hP := see_post (unhide HI2) (unhide HK2) (by repeat first | exact Keep.refl _ _ | refine Keep.drew ?_ | refine Keep.alloc ?_ _) hgrow hown3
    first | exact hP | exact hP.drew | exact hP.drew.drew
end Go.Proofs.YtoepcplbpochpabDoor

/-
  The writer in memory, and what putting one instruction leaves behind: (*lodge.writer).put.
-/
namespace Go.Proofs.YtoepcplbpochpabDoor
open Go.RowKit

def In4.cells (x : In4) : List Value := [.int .i64 x.op, .int .i64 x.d, .int .i64 x.a, .int .i64 x.b]
def insCells (l : List In4) : List Value := l.flatMap In4.cells
theorem insCells_len (l : List In4) : (insCells l).length = l.length * 4 := by
  unfold insCells
  induction l with
  | nil => rfl
  | cons r l ih => rw [List.flatMap_cons, List.length_append, ih, List.length_cons]; show 4 + _ = _; omega
theorem insCells_snoc (l : List In4) (r : In4) : insCells (l ++ [r]) = insCells l ++ r.cells := by unfold insCells; rw [List.flatMap_append]; simp

/-- The writer's cells. -/
def wrV (hs : Nat → Bool) (ha : Nat → Nat) (K : Nat) (sv : Value) (st : Nat → Nat) : Nat → Value := fun o => if o < 24 then homV hs ha o else if o = 24 then .int .i64 K else if o = 25 then sv else .int .i64 (st (o - 26))
/-- The writer has written the code C. -/
structure WrB (w : World) (B : Nat) (hs : Nat → Bool) (ha : Nat → Nat) (K : Nat) (st : Nat → Nat) (C : List In4) (sv : Value) : Prop where
  row : Rowd w B 89 66 (wrV hs ha K sv st)
  own : w.ownsRow (B + 1) 31 4 sv C.length (insCells C)
theorem WrB.hs {w : World} {B : Nat} {hs : Nat → Bool} {ha : Nat → Nat} {K : Nat} {st : Nat → Nat} {C : List In4} {sv : Value} (h : WrB w B hs ha K st C sv) {r : Nat} (hr : r < 12) : w.cell? ⟨B, r * 2, none⟩ = some (.bool (hs r)) := by
  rw [h.row.cell (by omega)]; unfold wrV homV; rw [if_pos (by omega), if_pos (by omega), show r * 2 / 2 = r by omega]
theorem WrB.ha {w : World} {B : Nat} {hs : Nat → Bool} {ha : Nat → Nat} {K : Nat} {st : Nat → Nat} {C : List In4} {sv : Value} (h : WrB w B hs ha K st C sv) {r : Nat} (hr : r < 12) : w.cell? ⟨B, r * 2 + 1, none⟩ = some (.int .i64 (ha r)) := by
  rw [h.row.cell (by omega)]; unfold wrV homV; rw [if_pos (by omega), if_neg (by omega), show (r * 2 + 1) / 2 = r by omega]
theorem WrB.k {w : World} {B : Nat} {hs : Nat → Bool} {ha : Nat → Nat} {K : Nat} {st : Nat → Nat} {C : List In4} {sv : Value} (h : WrB w B hs ha K st C sv) : w.cell? ⟨B, 24, none⟩ = some (.int .i64 K) := (h.row.cell (by omega)).trans rfl
theorem WrB.sv {w : World} {B : Nat} {hs : Nat → Bool} {ha : Nat → Nat} {K : Nat} {st : Nat → Nat} {C : List In4} {sv : Value} (h : WrB w B hs ha K st C sv) : w.cell? ⟨B, 25, none⟩ = some sv := (h.row.cell (by omega)).trans rfl
theorem WrB.lt {w : World} {B : Nat} {hs : Nat → Bool} {ha : Nat → Nat} {K : Nat} {st : Nat → Nat} {C : List In4} {sv : Value} (h : WrB w B hs ha K st C sv) : B < w.heap.size := h.row.lt
theorem WrB.keep0 {w w' : World} {B : Nat} {hs : Nat → Bool} {ha : Nat → Nat} {K : Nat} {st : Nat → Nat} {C : List In4} {sv : Value} (h : WrB w B hs ha K st C sv) (hk : Keep (fun _ => False) w w') : WrB w' B hs ha K st C sv :=
  ⟨h.row.keep hk (fun h => h), own_keep h.own hk (fun _ _ h => h)⟩
theorem WrB.below {w w' : World} {B : Nat} {hs : Nat → Bool} {ha : Nat → Nat} {K : Nat} {st : Nat → Nat} {C : List In4} {sv : Value} (h : WrB w B hs ha K st C sv) (hb : Below w.heap.size w w') : WrB w' B hs ha K st C sv := h.keep0 (Keep.of_below hb _)
theorem WrB.drew {w : World} {B : Nat} {hs : Nat → Bool} {ha : Nat → Nat} {K : Nat} {st : Nat → Nat} {C : List In4} {sv : Value} (h : WrB w B hs ha K st C sv) : WrB w.drew B hs ha K st C sv := h.keep0 (Keep.refl _ _).drew

/-- What writing leaves as it was: all but the writer's block and the block of its code; the code moves to new memory alone. -/
structure WrStep (B : Nat) (w : World) (sv : Value) (w' : World) (sv' : Value) : Prop where
  keep : Keep (fun k => k = B ∨ some k = sv.ownBlock) w w'
  fresh : ∀ k, k < w.heap.size → some k ≠ sv.ownBlock → some k ≠ sv'.ownBlock
theorem WrStep.refl (B : Nat) (w : World) (sv : Value) : WrStep B w sv w sv := ⟨Keep.refl _ _, fun _ _ h => h⟩
theorem WrStep.trans {B : Nat} {w w1 w2 : World} {sv sv1 sv2 : Value} (h : WrStep B w sv w1 sv1) (h' : WrStep B w1 sv1 w2 sv2) : WrStep B w sv w2 sv2 := by
  refine ⟨h.keep.trans h'.keep (fun i hi hS => ?_), fun k hk hn => h'.fresh k (Nat.lt_of_lt_of_le hk h.keep.size) (h.fresh k hk hn)⟩
  rcases hS with e | e
  · exact .inl e
  · right
    rcases Classical.em (some i = sv.ownBlock) with h1 | h1
    · exact h1
    · exact absurd e (h.fresh i hi h1)
theorem WrStep.quiet {B : Nat} {w w' : World} {sv : Value} (h : Keep (fun _ => False) w w') : WrStep B w sv w' sv := ⟨h.mono (fun _ _ h => h.elim), fun _ _ h => h⟩
theorem WrStep.below {B : Nat} {w w' : World} {sv : Value} (h : Below w.heap.size w w') : WrStep B w sv w' sv := .quiet (Keep.of_below h _)
theorem WrStep.block {B : Nat} {w w' : World} {sv sv' : Value} (h : WrStep B w sv w' sv') {k : Nat} (hk : k < w.heap.size) (h1 : k ≠ B) (h2 : some k ≠ sv.ownBlock) : w'.heap[k]? = w.heap[k]? := h.keep.block k hk (fun h => h.elim h1 h2)
/-- Below the writer all is as it was. -/
theorem WrStep.under {B : Nat} {w w' : World} {hs : Nat → Bool} {ha : Nat → Nat} {K : Nat} {st : Nat → Nat} {C : List In4} {sv sv' : Value} (h : WrStep B w sv w' sv') (hw : WrB w B hs ha K st C sv) : Below B w w' :=
  h.keep.below (Nat.le_of_lt hw.lt) (fun k hk e => e.elim (fun e => by omega) (fun e => by have := (own_in hw.own k e.symm).1; omega))
/-- A block that lay there ahead of writing is not the code's. -/
theorem WrB.apart {w : World} {B : Nat} {hs : Nat → Bool} {ha : Nat → Nat} {K : Nat} {st : Nat → Nat} {C : List In4} {sv : Value} (h : WrB w B hs ha K st C sv) {k : Nat} (hk : w.heap.size ≤ k) : some k ≠ sv.ownBlock := fun e => by
  have := (own_in h.own k e.symm).2; omega

def PutPost (w : World) (B : Nat) (hs : Nat → Bool) (ha : Nat → Nat) (K : Nat) (st : Nat → Nat) (C : List In4) (sv : Value) (e : Ending) (w' : World) : Prop :=
  e = .returned (.tuple #[]) ∧ ∃ sv', WrB w' B hs ha K st C sv' ∧ WrStep B w sv w' sv'
theorem PutPost.drew {w w' : World} {B : Nat} {hs : Nat → Bool} {ha : Nat → Nat} {K : Nat} {st : Nat → Nat} {C : List In4} {sv : Value} {e : Ending} (h : PutPost w B hs ha K st C sv e w') : PutPost w B hs ha K st C sv e w'.drew := by
  obtain ⟨h1, sv', h2, h3⟩ := h
  exact ⟨h1, sv', h2.drew, h3.trans (.quiet (Keep.refl _ _).drew)⟩

theorem put_post {w w2 wz w3 : World} {B g cap H : Nat} {hs : Nat → Bool} {ha : Nat → Nat} {K : Nat} {st : Nat → Nat} {C : List In4} {sv : Value} {x : In4} (hw : WrB w2 B hs ha K st C sv) (hK2 : Keep (fun _ => False) w w2) (hz : Keep (fun _ => False) w2 wz) (hg : wz.grownBy w3 sv.ownBlock)
    (hat : sv.ownBlock = some g ∨ g = H) (hH : w2.heap.size ≤ H)
    (hown : w3.ownsRow (B + 1) 31 4 (.slice (some ⟨g, 0, none⟩) (C.length + 1) cap) (C.length + 1) (insCells C ++ [.int .i64 x.op, .int .i64 x.d, .int .i64 x.a, .int .i64 x.b])) :
    PutPost w B hs ha K st (C ++ [x]) sv (.returned (.tuple #[])) (w3.setCell ⟨B, 25, none⟩ (.slice (some ⟨g, 0, none⟩) (C.length + 1) cap)) := by
  have hB2 := hw.lt
  have hne : some B ≠ sv.ownBlock := fun e => by have := (own_in hw.own B e.symm).1; omega
  have hbl := grown_block hz hg hne hB2
  have hk3 : Keep (fun k => some k = sv.ownBlock) w2 w3 := (hz.mono (fun _ _ h => h.elim)).grown hg (fun k e _ => e.symm)
  have hkB : Keep (fun k => k = B) w3 (w3.setCell ⟨B, 25, none⟩ (.slice (some ⟨g, 0, none⟩) (C.length + 1) cap)) := keep_set (Keep.refl _ _) _ _
  refine ⟨rfl, .slice (some ⟨g, 0, none⟩) (C.length + 1) cap, ⟨?_, ?_⟩, ⟨?_, ?_⟩⟩
  · refine ((hw.row.of_block hbl).set 25 _).congr (fun o ho => ?_)
    unfold wrV
    by_cases e : o = 25
    · subst e; rw [if_pos rfl, if_neg (by omega), if_neg (by omega), if_pos rfl]
    · rw [if_neg e, if_neg e, if_neg e]
  · rw [List.length_append, insCells_snoc]
    exact own_keep hown hkB (fun k hk e => by have := (own_in hown k hk).1; omega)
  · exact ((hK2.mono (T := fun k => k = B ∨ some k = sv.ownBlock) (fun _ _ h => h.elim)).trans hk3 (fun _ _ h => .inr h)).trans hkB (fun _ _ h => .inl h)
  · intro k hk hn e
    have e' : some k = some g := e
    injection e' with e'
    subst e'
    have := hK2.size
    rcases hat with h | h
    · exact hn h.symm
    · omega

theorem Tryd.info31 : (Tryd.prog.info? 31).map (fun i => (i.zero, i.size, i.bytes)) = some (some (.agg #[.int .i64 0, .int .i64 0, .int .i64 0, .int .i64 0]), 4, 32) := by kernel_rfl
set_option maxRecDepth 100000 in
set_option maxHeartbeats 4000000 in
theorem put1_any (B : Nat) (hs : Nat → Bool) (ha : Nat → Nat) (K : Nat) (st : Nat → Nat) (C : List In4) (sv : Value) (x : In4) (w : World) (h : WrB w B hs ha K st C sv) (hl : C.length ≤ 1000) :
    Calls Tryd.prog 74 #[.pointer (some ⟨B, 0, none⟩), .agg #[.int .i64 x.op, .int .i64 x.d, .int .i64 x.a, .int .i64 x.b]] w (PutPost w B hs ha K st (C ++ [x]) sv) := by
  have hB := h.lt
  have HI := hide h
  clear h
  obtain ⟨w2, hw2, hq, HB2, hZ⟩ := box4 w x
  have HW := hide hw2
  have HK2 : Hid (Keep (fun _ => False) w w2) := Keep.of_below (unhide HB2) _
  have HI2 := hide ((unhide HI).below (unhide HB2))
  have c25 : w2.cell? ⟨B, 25, none⟩ = some sv := (unhide HI2).sv
  have hf2 : ∀ o, w2.frozen? ⟨B, o, none⟩ = false := (unhide HI2).row.free
  have hB2 : B < w2.heap.size := (unhide HI2).lt
  have HO := hide (unhide HI2).own
  have HN : Hid (some B ≠ sv.ownBlock) := fun e => by have := (own_in (unhide HO) B e.symm).1; omega
  obtain ⟨q0, q1, q2, q3⟩ := hq
  obtain ⟨i0, hi, hz0, hz1, hz2'⟩ := info_parts Tryd.info31
  clear hw2
  go_enter Tryd.func74, Tryd.ntmps74
  go_wp2_with fail
  rw [← unhide HW]
  go_wp2_with fail
  go_region_law ((refine step_append_lies _ (by rfl) _ _ _ (by rfl) (B + 1) 31 i0 _ 4 32 Tryd.underlying22 hi hz0 hz1 hz2' rfl (by omega) sv C.length (insCells C) (by rfl) (own_keep (unhide HO) (S := fun _ => False) (by repeat first | exact Keep.refl _ _ | refine Keep.drew ?_ | refine Keep.alloc ?_ _) (fun _ _ h => h)) ⟨w2.heap.size, 0, none⟩ 1 1 [.int .i64 x.op, .int .i64 x.d, .int .i64 x.a, .int .i64 x.b] (by rfl) (by rfl) (World.news_of_block (cs := #[.int .i64 x.op, .int .i64 x.d, .int .i64 x.a, .int .i64 x.b]) (t := 31) (fr := (0, 0)) (heap_alloc_new _ _)) (by simp [Value.oneCell']) (by omega) (by unfold maxLen; omega) (by omega) (by simp; omega) (w2.heap.size + 1) (by simp) ?_; intro g cap w3 hown3 hgrow hat3 hlt3; have HBL := hide (grown_block (a := w2) (by repeat first | exact Keep.refl _ _ | refine Keep.drew ?_ | refine Keep.alloc ?_ _) hgrow (unhide HN) hB2); have b25 : w3.cell? ⟨B, 25, none⟩ = some sv := (World.cell?_of_block (unhide HBL)).trans c25; have bf : w3.frozen? ⟨B, 25, none⟩ = false := (World.frozen?_of_block (unhide HBL)).trans (hf2 25)))
  all_goals go_wp2_with fail
  all_goals go_returns
  all_goals
    have hP := put_post (x := x) (H := w2.heap.size + 1) (unhide HI2) (unhide HK2) (by repeat first | exact Keep.refl _ _ | refine Keep.drew ?_ | refine Keep.alloc ?_ _) hgrow hat3 (by omega) hown3
    first | exact hP | exact hP.drew | exact hP.drew.drew
end Go.Proofs.YtoepcplbpochpabDoor
