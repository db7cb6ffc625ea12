/-
  The document's own run: what an instruction makes of a moment: (*lodgeref.Moment).pass.
-/
import Derived.Test.YtoepcplbpochpaaDoorRunMath
import Derived.Deep.RegionHeld3
import Derived.Handy
namespace Go.Proofs.YtoepcplbpochpaaDoor
open Go.RowKit

def endI (s : St) : Int := if s.on then -1 else s.kind
/-- A moment in memory: its block, the registers' and the variables'. -/
structure MomB (w : World) (M G H R V : Nat) (s : St) : Prop where
  at_ : w.cell? ⟨M, 0, none⟩ = some (.int .i64 (s.at_ : Int))
  rg : w.cell? ⟨M, 1, none⟩ = some (.slice (some ⟨G, 0, none⟩) R R)
  vr : w.cell? ⟨M, s.env.vc, none⟩ = some (.slice (some ⟨H, 0, none⟩) V V)
  en : w.cell? ⟨M, 4, none⟩ = some (.int .i64 (endI s))
  vl : w.cell? ⟨M, 5, none⟩ = some (.int .i64 s.val)
  regs : ∀ i, i < R → w.cell? ⟨G, i, none⟩ = some (.int .i64 (s.regs i))
  vars : ∀ i, i < V → w.cell? ⟨H, i, none⟩ = some (.int .i64 (s.vars i))
  fm : ∀ o, w.frozen? ⟨M, o, none⟩ = false
  fg : ∀ o, w.frozen? ⟨G, o, none⟩ = false
  fh : ∀ o, w.frozen? ⟨H, o, none⟩ = false
  ig : G < w.heap.size
  ih : H < w.heap.size
  mg : M ≠ G
  mh : M ≠ H
  gh : G ≠ H
  hc : s.env.vc = 2 ∨ s.env.vc = 3
theorem MomB.im {w : World} {M G H R V : Nat} {s : St} (h : MomB w M G H R V s) : M < w.heap.size := World.block_lt_of_cell? w ⟨M, 0, none⟩ h.at_
theorem MomB.of_block {w w' : World} {M G H R V : Nat} {s : St} (h : MomB w M G H R V s) (hm : w'.heap[M]? = w.heap[M]?) (hg : w'.heap[G]? = w.heap[G]?) (hh : w'.heap[H]? = w.heap[H]?) (hz : w.heap.size ≤ w'.heap.size) : MomB w' M G H R V s :=
  ⟨(World.cell?_of_block hm).trans h.at_, (World.cell?_of_block hm).trans h.rg, (World.cell?_of_block hm).trans h.vr, (World.cell?_of_block hm).trans h.en, (World.cell?_of_block hm).trans h.vl,
   fun i hi => (World.cell?_of_block hg).trans (h.regs i hi), fun i hi => (World.cell?_of_block hh).trans (h.vars i hi),
   fun o => (World.frozen?_of_block hm).trans (h.fm o), fun o => (World.frozen?_of_block hg).trans (h.fg o), fun o => (World.frozen?_of_block hh).trans (h.fh o), Nat.lt_of_lt_of_le h.ig hz, Nat.lt_of_lt_of_le h.ih hz, h.mg, h.mh, h.gh, h.hc⟩
theorem MomB.drew {w : World} {M G H R V : Nat} {s : St} (h : MomB w M G H R V s) : MomB w.drew M G H R V s := h.of_block rfl rfl rfl (Nat.le_refl _)
theorem MomB.keep {S : Nat → Prop} {w w' : World} {M G H R V : Nat} {s : St} (h : MomB w M G H R V s) (hk : Keep S w w') (hm : ¬ S M) (hg : ¬ S G) (hh : ¬ S H) : MomB w' M G H R V s :=
  h.of_block (hk.block M h.im hm) (hk.block G h.ig hg) (hk.block H h.ih hh) hk.size
theorem MomB.same {w : World} {M G H R V : Nat} {s s' : St} (h : MomB w M G H R V s) (h1 : s'.at_ = s.at_) (h2 : s'.regs = s.regs) (h3 : s'.vars = s.vars) (h4 : endI s' = endI s) (h5 : s'.val = s.val) (h6 : s'.env = s.env := by rfl) : MomB w M G H R V s' :=
  ⟨by rw [h1]; exact h.at_, h.rg, by rw [h6]; exact h.vr, by rw [h4]; exact h.en, by rw [h5]; exact h.vl, by rw [h2]; exact h.regs, by rw [h3]; exact h.vars, h.fm, h.fg, h.fh, h.ig, h.ih, h.mg, h.mh, h.gh, by rw [h6]; exact h.hc⟩

theorem cell_far {w : World} {A B i o : Nat} {v u : Value} (h : w.cell? ⟨A, o, none⟩ = some u) (hne : A ≠ B) : (w.setCell ⟨B, i, none⟩ v).cell? ⟨A, o, none⟩ = some u := by
  rw [World.cell?_setCell_other _ _ _ _ (fun e => hne (by injection e with e1; exact e1.symm))]; exact h
theorem frozen_far {w : World} {A B i : Nat} {v : Value} (h : ∀ o, w.frozen? ⟨A, o, none⟩ = false) : ∀ o, (w.setCell ⟨B, i, none⟩ v).frozen? ⟨A, o, none⟩ = false := fun o => by
  rw [World.frozen?_setCell]; exact h o

theorem MomB.set_reg {w : World} {M G H R V : Nat} {s : St} (h : MomB w M G H R V s) (d : Nat) (hd : d < R) (v : Int) : MomB (w.setCell ⟨G, d, none⟩ (.int .i64 v)) M G H R V (s.reg d v) := by
  refine ⟨cell_far h.at_ h.mg, cell_far h.rg h.mg, cell_far h.vr h.mg, cell_far h.en h.mg, cell_far h.vl h.mg, fun i hi => ?_, fun i hi => cell_far (h.vars i hi) h.gh.symm, frozen_far h.fm, frozen_far h.fg, frozen_far h.fh, by simp; exact h.ig, by simp; exact h.ih, h.mg, h.mh, h.gh, h.hc⟩
  by_cases hid : i = d
  · subst hid; rw [cell_put (h.regs i hi)]; show _ = some (Value.int .i64 (upd s.regs i v i)); rw [upd_same]
  · rw [cell_set (h.regs i hi) hid]; show _ = some (Value.int .i64 (upd s.regs d v i)); rw [upd_other _ _ hid]
theorem MomB.set_var {w : World} {M G H R V : Nat} {s : St} (h : MomB w M G H R V s) (d : Nat) (hd : d < V) (v : Int) : MomB (w.setCell ⟨H, d, none⟩ (.int .i64 v)) M G H R V (s.var d v) := by
  refine ⟨cell_far h.at_ h.mh, cell_far h.rg h.mh, cell_far h.vr h.mh, cell_far h.en h.mh, cell_far h.vl h.mh, fun i hi => cell_far (h.regs i hi) h.gh, fun i hi => ?_, frozen_far h.fm, frozen_far h.fg, frozen_far h.fh, by simp; exact h.ig, by simp; exact h.ih, h.mg, h.mh, h.gh, h.hc⟩
  by_cases hid : i = d
  · subst hid; rw [cell_put (h.vars i hi)]; show _ = some (Value.int .i64 (upd s.vars i v i)); rw [upd_same]
  · rw [cell_set (h.vars i hi) hid]; show _ = some (Value.int .i64 (upd s.vars d v i)); rw [upd_other _ _ hid]
theorem MomB.set_at {w : World} {M G H R V : Nat} {s : St} (h : MomB w M G H R V s) (p : Nat) {z : Int} (hz : z = (p : Int)) : MomB (w.setCell ⟨M, 0, none⟩ (.int .i64 z)) M G H R V (s.goto p) := by
  rw [hz]
  exact ⟨cell_put h.at_, cell_set h.rg (by omega), cell_set h.vr (show s.env.vc ≠ 0 by have := h.hc; omega), cell_set h.en (by omega), cell_set h.vl (by omega), fun i hi => cell_far (h.regs i hi) h.mg.symm, fun i hi => cell_far (h.vars i hi) h.mh.symm, frozen_far h.fm, frozen_far h.fg, frozen_far h.fh, by simp; exact h.ig, by simp; exact h.ih, h.mg, h.mh, h.gh, h.hc⟩
theorem MomB.set_end {w : World} {M G H R V : Nat} {s : St} (h : MomB w M G H R V s) (k : Int) : MomB (w.setCell ⟨M, 4, none⟩ (.int .i64 k)) M G H R V (s.ended k s.val) :=
  ⟨cell_set h.at_ (by omega), cell_set h.rg (by omega), cell_set h.vr (show s.env.vc ≠ 4 by have := h.hc; omega), cell_put h.en, cell_set h.vl (by omega), fun i hi => cell_far (h.regs i hi) h.mg.symm, fun i hi => cell_far (h.vars i hi) h.mh.symm, frozen_far h.fm, frozen_far h.fg, frozen_far h.fh, by simp; exact h.ig, by simp; exact h.ih, h.mg, h.mh, h.gh, h.hc⟩
theorem MomB.set_val {w : World} {M G H R V : Nat} {s : St} (h : MomB w M G H R V s) (v : Int) : MomB (w.setCell ⟨M, 5, none⟩ (.int .i64 v)) M G H R V { s with val := v } :=
  ⟨cell_set h.at_ (by omega), cell_set h.rg (by omega), cell_set h.vr (show s.env.vc ≠ 5 by have := h.hc; omega), cell_set h.en (by omega), cell_put h.vl, fun i hi => cell_far (h.regs i hi) h.mg.symm, fun i hi => cell_far (h.vars i hi) h.mh.symm, frozen_far h.fm, frozen_far h.fg, frozen_far h.fh, by simp; exact h.ig, by simp; exact h.ih, h.mg, h.mh, h.gh, h.hc⟩

/-- The three blocks of a moment. -/
def Mine (M G H : Nat) : Nat → Prop := fun k => k = M ∨ k = G ∨ k = H
theorem keep_m {M G H : Nat} {a w : World} (h : Keep (Mine M G H) a w) (o : Nat) (u : Value) : Keep (Mine M G H) a (w.setCell ⟨M, o, none⟩ u) := Keep.setCell (S := Mine M G H) h (p := ⟨M, o, none⟩) (.inl rfl) u
theorem keep_g {M G H : Nat} {a w : World} (h : Keep (Mine M G H) a w) (o : Nat) (u : Value) : Keep (Mine M G H) a (w.setCell ⟨G, o, none⟩ u) := Keep.setCell (S := Mine M G H) h (p := ⟨G, o, none⟩) (.inr (.inl rfl)) u
theorem keep_h {M G H : Nat} {a w : World} (h : Keep (Mine M G H) a w) (o : Nat) (u : Value) : Keep (Mine M G H) a (w.setCell ⟨H, o, none⟩ u) := Keep.setCell (S := Mine M G H) h (p := ⟨H, o, none⟩) (.inr (.inr rfl)) u

/-- What a step leaves of a moment. -/
def PassPost (w : World) (M G H R V : Nat) (s' : St) (e : Ending) (w' : World) : Prop :=
  e = .returned (.tuple #[]) ∧ MomB w' M G H R V s' ∧ Keep (Mine M G H) w w'
theorem PassPost.drew {w w' : World} {M G H R V : Nat} {s : St} {e : Ending} (h : PassPost w M G H R V s e w') : PassPost w M G H R V s e w'.drew := ⟨h.1, h.2.1.drew, h.2.2.drew⟩

/-- The world in which the instruction's own work begins. -/
def passW (w : World) (M : Nat) (s : St) (op d a b : Int) : World :=
  (w.setCell ⟨M, 0, none⟩ (.int .i64 ((s.at_ : Int) + 1))).alloc (.cells #[.int .i64 op, .int .i64 d, .int .i64 a, .int .i64 b] 77)
theorem pass_open {w : World} {M G H R V : Nat} {s : St} (op d a b : Int) (h : MomB w M G H R V s) :
    ∃ w2, w2 = passW w M s op d a b ∧ Hid (MomB w2 M G H R V s.next) ∧ Hid (Keep (Mine M G H) w w2) ∧
      w2.cell? ⟨w.heap.size, 0, none⟩ = some (.int .i64 op) ∧ w2.cell? ⟨w.heap.size, 1, none⟩ = some (.int .i64 d) ∧ w2.cell? ⟨w.heap.size, 2, none⟩ = some (.int .i64 a) ∧ w2.cell? ⟨w.heap.size, 3, none⟩ = some (.int .i64 b) := by
  have hk : Keep (Mine M G H) w (passW w M s op d a b) := (keep_m (Keep.refl _ _) _ _).alloc _
  have hsz : (w.setCell ⟨M, 0, none⟩ (.int .i64 ((s.at_ : Int) + 1))).heap.size = w.heap.size := by simp
  have h1 := h.set_at (s.at_ + 1) (z := (s.at_ : Int) + 1) (by omega)
  have h2 : MomB (passW w M s op d a b) M G H R V (s.goto (s.at_ + 1)) := h1.of_block (Below.heap_alloc _ _ _ (by rw [hsz]; exact h.im)) (Below.heap_alloc _ _ _ (by rw [hsz]; exact h.ig)) (Below.heap_alloc _ _ _ (by rw [hsz]; exact h.ih)) (by unfold passW; simp)
  have q : ∀ i, (passW w M s op d a b).cell? ⟨w.heap.size, i, none⟩ = #[Value.int .i64 op, .int .i64 d, .int .i64 a, .int .i64 b][i]? := fun i => World.cell?_alloc_at (hn := hsz.symm) ..
  exact ⟨_, rfl, h2.same rfl rfl rfl rfl rfl, hk, (q 0).trans rfl, (q 1).trans rfl, (q 2).trans rfl, (q 3).trans rfl⟩
end Go.Proofs.YtoepcplbpochpaaDoor
