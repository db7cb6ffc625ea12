/-
  The document's own run: what an instruction makes of a moment: (*lodgeref.Moment).pass.
-/
import Derived.Test.YtoepcplbpochpaaDoorPiece2
import Derived.Deep.RegionHeld3
import Derived.Handy
import Derived.Test.YtoepcplbpochpaaDoorPiece7
import Derived.Test.YtoepcplbpochpaaDoorPiece8
import Derived.Test.YtoepcplbpochpaaDoorPiece23
import Derived.Test.YtoepcplbpochpaaDoorPiece20
import Derived.Test.YtoepcplbpochpaaDoorPiece21

namespace Go.Proofs.YtoepcplbpochpaaDoor
open Go.RowKit

def endI (s : St) : Int := if s.on then -1 else s.kind
/-- A moment in memory: its block, the registers' and the variables'. -/
structure MomB (w : World) (M G H R V : Nat) (s : St) : Prop where
  at_ : w.cell? ⟨M, 0, none⟩ = some (.int .i64 (s.at_ : Int))
  rg : w.cell? ⟨M, 1, none⟩ = some (.slice (some ⟨G, 0, none⟩) R R)
  vr : w.cell? ⟨M, s.env.vc, none⟩ = some (.slice (some ⟨H, 0, none⟩) V V)
  en : w.cell? ⟨M, 4, none⟩ = some (.int .i64 (endI s))
  vl : w.cell? ⟨M, 5, none⟩ = some (.int .i64 s.val)
  regs : ∀ i, i < R → w.cell? ⟨G, i, none⟩ = some (.int .i64 (s.regs i))
  vars : ∀ i, i < V → w.cell? ⟨H, i, none⟩ = some (.int .i64 (s.vars i))
  fm : ∀ o, w.frozen? ⟨M, o, none⟩ = false
  fg : ∀ o, w.frozen? ⟨G, o, none⟩ = false
  fh : ∀ o, w.frozen? ⟨H, o, none⟩ = false
  ig : G < w.heap.size
  ih : H < w.heap.size
  mg : M ≠ G
  mh : M ≠ H
  gh : G ≠ H
  hc : s.env.vc = 2 ∨ s.env.vc = 3
theorem MomB.im {w : World} {M G H R V : Nat} {s : St} (h : MomB w M G H R V s) : M < w.heap.size := World.block_lt_of_cell? w ⟨M, 0, none⟩ h.at_
theorem MomB.of_block {w w' : World} {M G H R V : Nat} {s : St} (h : MomB w M G H R V s) (hm : w'.heap[M]? = w.heap[M]?) (hg : w'.heap[G]? = w.heap[G]?) (hh : w'.heap[H]? = w.heap[H]?) (hz : w.heap.size ≤ w'.heap.size) : MomB w' M G H R V s :=
  ⟨(World.cell?_of_block hm).trans h.at_, (World.cell?_of_block hm).trans h.rg, (World.cell?_of_block hm).trans h.vr, (World.cell?_of_block hm).trans h.en, (World.cell?_of_block hm).trans h.vl,
   fun i hi => (World.cell?_of_block hg).trans (h.regs i hi), fun i hi => (World.cell?_of_block hh).trans (h.vars i hi),
   fun o => (World.frozen?_of_block hm).trans (h.fm o), fun o => (World.frozen?_of_block hg).trans (h.fg o), fun o => (World.frozen?_of_block hh).trans (h.fh o), Nat.lt_of_lt_of_le h.ig hz, Nat.lt_of_lt_of_le h.ih hz, h.mg, h.mh, h.gh, h.hc⟩
theorem MomB.drew {w : World} {M G H R V : Nat} {s : St} (h : MomB w M G H R V s) : MomB w.drew M G H R V s := h.of_block rfl rfl rfl (Nat.le_refl _)
theorem MomB.keep {S : Nat → Prop} {w w' : World} {M G H R V : Nat} {s : St} (h : MomB w M G H R V s) (hk : Keep S w w') (hm : ¬ S M) (hg : ¬ S G) (hh : ¬ S H) : MomB w' M G H R V s :=
  h.of_block (hk.block M h.im hm) (hk.block G h.ig hg) (hk.block H h.ih hh) hk.size
theorem MomB.same {w : World} {M G H R V : Nat} {s s' : St} (h : MomB w M G H R V s) (h1 : s'.at_ = s.at_) (h2 : s'.regs = s.regs) (h3 : s'.vars = s.vars) (h4 : endI s' = endI s) (h5 : s'.val = s.val) (h6 : s'.env = s.env := by rfl) : MomB w M G H R V s' :=
  ⟨by rw [h1]; exact h.at_, h.rg, by rw [h6]; exact h.vr, by rw [h4]; exact h.en, by rw [h5]; exact h.vl, by rw [h2]; exact h.regs, by rw [h3]; exact h.vars, h.fm, h.fg, h.fh, h.ig, h.ih, h.mg, h.mh, h.gh, by rw [h6]; exact h.hc⟩

theorem cell_far {w : World} {A B i o : Nat} {v u : Value} (h : w.cell? ⟨A, o, none⟩ = some u) (hne : A ≠ B) : (w.setCell ⟨B, i, none⟩ v).cell? ⟨A, o, none⟩ = some u := by
  rw [World.cell?_setCell_other _ _ _ _ (fun e => hne (by injection e with e1; exact e1.symm))]; exact h
theorem frozen_far {w : World} {A B i : Nat} {v : Value} (h : ∀ o, w.frozen? ⟨A, o, none⟩ = false) : ∀ o, (w.setCell ⟨B, i, none⟩ v).frozen? ⟨A, o, none⟩ = false := fun o => by
  rw [World.frozen?_setCell]; exact h o

theorem MomB.set_reg {w : World} {M G H R V : Nat} {s : St} (h : MomB w M G H R V s) (d : Nat) (hd : d < R) (v : Int) : MomB (w.setCell ⟨G, d, none⟩ (.int .i64 v)) M G H R V (s.reg d v) := by
  refine ⟨cell_far h.at_ h.mg, cell_far h.rg h.mg, cell_far h.vr h.mg, cell_far h.en h.mg, cell_far h.vl h.mg, fun i hi => ?_, fun i hi => cell_far (h.vars i hi) h.gh.symm, frozen_far h.fm, frozen_far h.fg, frozen_far h.fh, by simp; exact h.ig, by simp; exact h.ih, h.mg, h.mh, h.gh, h.hc⟩
  by_cases hid : i = d
  · subst hid; rw [cell_put (h.regs i hi)]; show _ = some (Value.int .i64 (upd s.regs i v i)); rw [upd_same]
  · rw [cell_set (h.regs i hi) hid]; show _ = some (Value.int .i64 (upd s.regs d v i)); rw [upd_other _ _ hid]
theorem MomB.set_var {w : World} {M G H R V : Nat} {s : St} (h : MomB w M G H R V s) (d : Nat) (hd : d < V) (v : Int) : MomB (w.setCell ⟨H, d, none⟩ (.int .i64 v)) M G H R V (s.var d v) := by
  refine ⟨cell_far h.at_ h.mh, cell_far h.rg h.mh, cell_far h.vr h.mh, cell_far h.en h.mh, cell_far h.vl h.mh, fun i hi => cell_far (h.regs i hi) h.gh, fun i hi => ?_, frozen_far h.fm, frozen_far h.fg, frozen_far h.fh, by simp; exact h.ig, by simp; exact h.ih, h.mg, h.mh, h.gh, h.hc⟩
  by_cases hid : i = d
  · subst hid; rw [cell_put (h.vars i hi)]; show _ = some (Value.int .i64 (upd s.vars i v i)); rw [upd_same]
  · rw [cell_set (h.vars i hi) hid]; show _ = some (Value.int .i64 (upd s.vars d v i)); rw [upd_other _ _ hid]
theorem MomB.set_at {w : World} {M G H R V : Nat} {s : St} (h : MomB w M G H R V s) (p : Nat) {z : Int} (hz : z = (p : Int)) : MomB (w.setCell ⟨M, 0, none⟩ (.int .i64 z)) M G H R V (s.goto p) := by
  rw [hz]
  exact ⟨cell_put h.at_, cell_set h.rg (by omega), cell_set h.vr (show s.env.vc ≠ 0 by have := h.hc; omega), cell_set h.en (by omega), cell_set h.vl (by omega), fun i hi => cell_far (h.regs i hi) h.mg.symm, fun i hi => cell_far (h.vars i hi) h.mh.symm, frozen_far h.fm, frozen_far h.fg, frozen_far h.fh, by simp; exact h.ig, by simp; exact h.ih, h.mg, h.mh, h.gh, h.hc⟩
theorem MomB.set_end {w : World} {M G H R V : Nat} {s : St} (h : MomB w M G H R V s) (k : Int) : MomB (w.setCell ⟨M, 4, none⟩ (.int .i64 k)) M G H R V (s.ended k s.val) :=
  ⟨cell_set h.at_ (by omega), cell_set h.rg (by omega), cell_set h.vr (show s.env.vc ≠ 4 by have := h.hc; omega), cell_put h.en, cell_set h.vl (by omega), fun i hi => cell_far (h.regs i hi) h.mg.symm, fun i hi => cell_far (h.vars i hi) h.mh.symm, frozen_far h.fm, frozen_far h.fg, frozen_far h.fh, by simp; exact h.ig, by simp; exact h.ih, h.mg, h.mh, h.gh, h.hc⟩
theorem MomB.set_val {w : World} {M G H R V : Nat} {s : St} (h : MomB w M G H R V s) (v : Int) : MomB (w.setCell ⟨M, 5, none⟩ (.int .i64 v)) M G H R V { s with val := v } :=
  ⟨cell_set h.at_ (by omega), cell_set h.rg (by omega), cell_set h.vr (show s.env.vc ≠ 5 by have := h.hc; omega), cell_set h.en (by omega), cell_put h.vl, fun i hi => cell_far (h.regs i hi) h.mg.symm, fun i hi => cell_far (h.vars i hi) h.mh.symm, frozen_far h.fm, frozen_far h.fg, frozen_far h.fh, by simp; exact h.ig, by simp; exact h.ih, h.mg, h.mh, h.gh, h.hc⟩

/-- The three blocks of a moment. -/
def Mine (M G H : Nat) : Nat → Prop := fun k => k = M ∨ k = G ∨ k = H
theorem keep_m {M G H : Nat} {a w : World} (h : Keep (Mine M G H) a w) (o : Nat) (u : Value) : Keep (Mine M G H) a (w.setCell ⟨M, o, none⟩ u) := Keep.setCell (S := Mine M G H) h (p := ⟨M, o, none⟩) (.inl rfl) u
theorem keep_g {M G H : Nat} {a w : World} (h : Keep (Mine M G H) a w) (o : Nat) (u : Value) : Keep (Mine M G H) a (w.setCell ⟨G, o, none⟩ u) := Keep.setCell (S := Mine M G H) h (p := ⟨G, o, none⟩) (.inr (.inl rfl)) u
theorem keep_h {M G H : Nat} {a w : World} (h : Keep (Mine M G H) a w) (o : Nat) (u : Value) : Keep (Mine M G H) a (w.setCell ⟨H, o, none⟩ u) := Keep.setCell (S := Mine M G H) h (p := ⟨H, o, none⟩) (.inr (.inr rfl)) u

/-- What a step leaves of a moment. -/
def PassPost (w : World) (M G H R V : Nat) (s' : St) (e : Ending) (w' : World) : Prop :=
  e = .returned (.tuple #[]) ∧ MomB w' M G H R V s' ∧ Keep (Mine M G H) w w'
theorem PassPost.drew {w w' : World} {M G H R V : Nat} {s : St} {e : Ending} (h : PassPost w M G H R V s e w') : PassPost w M G H R V s e w'.drew := ⟨h.1, h.2.1.drew, h.2.2.drew⟩

/-- The world in which the instruction's own work begins. -/
def passW (w : World) (M : Nat) (s : St) (op d a b : Int) : World :=
  (w.setCell ⟨M, 0, none⟩ (.int .i64 ((s.at_ : Int) + 1))).alloc (.cells #[.int .i64 op, .int .i64 d, .int .i64 a, .int .i64 b] 77)
theorem pass_open {w : World} {M G H R V : Nat} {s : St} (op d a b : Int) (h : MomB w M G H R V s) :
    ∃ w2, w2 = passW w M s op d a b ∧ Hid (MomB w2 M G H R V s.next) ∧ Hid (Keep (Mine M G H) w w2) ∧
      w2.cell? ⟨w.heap.size, 0, none⟩ = some (.int .i64 op) ∧ w2.cell? ⟨w.heap.size, 1, none⟩ = some (.int .i64 d) ∧ w2.cell? ⟨w.heap.size, 2, none⟩ = some (.int .i64 a) ∧ w2.cell? ⟨w.heap.size, 3, none⟩ = some (.int .i64 b) := by
  have hk : Keep (Mine M G H) w (passW w M s op d a b) := (keep_m (Keep.refl _ _) _ _).alloc _
  have hsz : (w.setCell ⟨M, 0, none⟩ (.int .i64 ((s.at_ : Int) + 1))).heap.size = w.heap.size := by simp
  have h1 := h.set_at (s.at_ + 1) (z := (s.at_ : Int) + 1) (by omega)
  have h2 : MomB (passW w M s op d a b) M G H R V (s.goto (s.at_ + 1)) := h1.of_block (Below.heap_alloc _ _ _ (by rw [hsz]; exact h.im)) (Below.heap_alloc _ _ _ (by rw [hsz]; exact h.ig)) (Below.heap_alloc _ _ _ (by rw [hsz]; exact h.ih)) (by unfold passW; simp)
  have q : ∀ i, (passW w M s op d a b).cell? ⟨w.heap.size, i, none⟩ = #[Value.int .i64 op, .int .i64 d, .int .i64 a, .int .i64 b][i]? := fun i => World.cell?_alloc_at (hn := hsz.symm) ..
  exact ⟨_, rfl, h2.same rfl rfl rfl rfl rfl, hk, (q 0).trans rfl, (q 1).trans rfl, (q 2).trans rfl, (q 3).trans rfl⟩
end Go.Proofs.YtoepcplbpochpaaDoor

/-
  The document's own run in memory: the moment, the result so far, and the lists that the run owns.
-/
namespace Go.Proofs.YtoepcplbpochpaaDoor
open Go.RowKit

/-- The document's run: its moment (of the state s), its result's block Q, the outputs, what was seen, the places. -/
structure RunInv (w : World) (M G H R V Q : Nat) (s : St) (outs : List Int) (stops : List Sn) (k : Nat) (vo vs vp : Value) (m : Nat) : Prop where
  mom : MomB w M G H R V s
  r0 : w.cell? ⟨Q, 0, none⟩ = some (.int .i64 2)
  r1 : w.cell? ⟨Q, 1, none⟩ = some (.int .i64 0)
  r2 : w.cell? ⟨Q, 2, none⟩ = some (.int .i64 (k : Int))
  r3 : w.cell? ⟨Q, 3, none⟩ = some vo
  r4 : w.cell? ⟨Q, 4, none⟩ = some vs
  rf : ∀ o, w.frozen? ⟨Q, o, none⟩ = false
  oo : w.ownsRow (Q + 1) 3 1 vo outs.length (intCells outs)
  os : w.ownsRow (Q + 1) 63 5 vs stops.length (snCells stops)
  pl : ∃ np xs, w.ownsRow (Q + 1) 3 1 vp np xs ∧ np ≤ m
  ap : ∀ g, vo.ownBlock = some g → vp.ownBlock ≠ some g
  lm : M < Q
  lg : G < Q
  lh : H < Q
section
variable {w w' w2 wz w3 : World} {M G H R V Q : Nat} {s s' : St} {outs : List Int} {stops : List Sn} {k m : Nat} {vo vs vp : Value}
theorem RunInv.iq (h : RunInv w M G H R V Q s outs stops k vo vs vp m) : Q < w.heap.size := World.block_lt_of_cell? w ⟨Q, 0, none⟩ h.r0
theorem RunInv.no (h : RunInv w M G H R V Q s outs stops k vo vs vp m) : ∀ g, vo.ownBlock = some g → Q + 1 ≤ g ∧ g < w.heap.size := own_in h.oo
theorem RunInv.ns (h : RunInv w M G H R V Q s outs stops k vo vs vp m) : ∀ g, vs.ownBlock = some g → Q + 1 ≤ g ∧ g < w.heap.size := own_in h.os
theorem RunInv.np (h : RunInv w M G H R V Q s outs stops k vo vs vp m) : ∀ g, vp.ownBlock = some g → Q + 1 ≤ g ∧ g < w.heap.size := h.pl.elim (fun _ h => h.elim (fun _ h => own_in h.1))

/-- Where the moment, the result and the three lists lie in blocks that are kept. -/
theorem RunInv.keep {S : Nat → Prop} (h : RunInv w M G H R V Q s outs stops k vo vs vp m) (hk : Keep S w w') (hQ : ∀ i, i ≤ Q → ¬ S i) (ho : ∀ g, vo.ownBlock = some g → ¬ S g) (hs : ∀ g, vs.ownBlock = some g → ¬ S g) (hp : ∀ g, vp.ownBlock = some g → ¬ S g) :
    RunInv w' M G H R V Q s outs stops k vo vs vp m := by
  have hb := hk.block Q h.iq (hQ Q (Nat.le_refl _))
  obtain ⟨np, xs, hp1, hp2⟩ := h.pl
  exact ⟨h.mom.keep hk (hQ M (Nat.le_of_lt h.lm)) (hQ G (Nat.le_of_lt h.lg)) (hQ H (Nat.le_of_lt h.lh)), (World.cell?_of_block hb).trans h.r0, (World.cell?_of_block hb).trans h.r1, (World.cell?_of_block hb).trans h.r2, (World.cell?_of_block hb).trans h.r3, (World.cell?_of_block hb).trans h.r4, fun o => (World.frozen?_of_block hb).trans (h.rf o), own_keep h.oo hk ho, own_keep h.os hk hs, ⟨np, xs, own_keep hp1 hk hp, hp2⟩, h.ap, h.lm, h.lg, h.lh⟩
theorem RunInv.grow (h : RunInv w M G H R V Q s outs stops k vo vs vp m) (hk : Keep (fun _ => False) w w') : RunInv w' M G H R V Q s outs stops k vo vs vp m :=
  h.keep hk (fun _ _ h => h) (fun _ _ h => h) (fun _ _ h => h) (fun _ _ h => h)
/-- A cell of the result is written. -/
theorem keep_q (w : World) (Q o : Nat) (u : Value) : Keep (fun i => i = Q) w (w.setCell ⟨Q, o, none⟩ u) := Keep.setCell (S := fun i => i = Q) (Keep.refl _ _) (p := ⟨Q, o, none⟩) rfl u

/-- An output joins. -/
theorem RunInv.out {y : Int} {g cap : Nat} {B : Nat} (h : RunInv w2 M G H R V Q s outs stops k vo vs vp m) (hz : Keep (fun _ => False) w2 wz) (hg : wz.grownBy w3 vo.ownBlock) (hB : w2.heap.size ≤ B)
    (hown : w3.ownsRow (Q + 1) 3 1 (.slice (some ⟨g, 0, none⟩) (outs.length + 1) cap) (outs.length + 1) (intCells outs ++ [.int .i64 y])) (hat : vo.ownBlock = some g ∨ g = B) :
    RunInv (w3.setCell ⟨Q, 3, none⟩ (.slice (some ⟨g, 0, none⟩) (outs.length + 1) cap)) M G H R V Q s (outs ++ [y]) stops k (.slice (some ⟨g, 0, none⟩) (outs.length + 1) cap) vs vp m := by
  have hk3 : Keep (fun i => some i = vo.ownBlock) w2 w3 := (hz.mono (fun _ _ h => h.elim)).grown hg (fun i e _ => e.symm)
  have hq : ∀ i, i ≤ Q → ¬ some i = vo.ownBlock := fun i hi e => by have := (h.no i e.symm).1; omega
  have hkq := keep_q w3 Q 3 (.slice (some ⟨g, 0, none⟩) (outs.length + 1) cap)
  have hb := hk3.block Q h.iq (hq Q (Nat.le_refl _))
  have c : ∀ {o : Nat} {u : Value}, w2.cell? ⟨Q, o, none⟩ = some u → w3.cell? ⟨Q, o, none⟩ = some u := fun hc => (World.cell?_of_block hb).trans hc
  obtain ⟨np, xs, hp1, hp2⟩ := h.pl
  have hs3 := own_keep h.os hk3 (fun g hg e => own_apart h.os h.oo (by decide) g hg e.symm)
  have hp3 := own_keep hp1 hk3 (fun g hg e => h.ap g e.symm hg)
  have hm3 := h.mom.keep hk3 (hq M (Nat.le_of_lt h.lm)) (hq G (Nat.le_of_lt h.lg)) (hq H (Nat.le_of_lt h.lh))
  have far : ∀ i, Q + 1 ≤ i → ¬ i = Q := fun i hi e => by omega
  refine ⟨hm3.keep hkq (by have := h.lm; omega) (by have := h.lg; omega) (by have := h.lh; omega), cell_set (c h.r0) (by omega), cell_set (c h.r1) (by omega), cell_set (c h.r2) (by omega), cell_put (c h.r3), cell_set (c h.r4) (by omega), frozen_set (fun o => (World.frozen?_of_block hb).trans (h.rf o)), ?_, own_keep hs3 hkq (fun g hg => far g (own_in hs3 g hg).1), ⟨np, xs, own_keep hp3 hkq (fun g hg => far g (own_in hp3 g hg).1), hp2⟩, ?_, h.lm, h.lg, h.lh⟩
  · rw [List.length_append, intCells_snoc]
    exact own_keep hown hkq (fun g hg => far g (own_in hown g hg).1)
  · intro i hi e
    have hig : i = g := by injection hi with hi; exact hi.symm
    subst hig
    rcases hat with hat | hat
    · exact h.ap i hat e
    · have := (h.np i e).2; omega
/-- What is seen joins. -/
theorem RunInv.see {x : Sn} {g cap : Nat} (h : RunInv w2 M G H R V Q s outs stops k vo vs vp m) (hz : Keep (fun _ => False) w2 wz) (hg : wz.grownBy w3 vs.ownBlock)
    (hown : w3.ownsRow (Q + 1) 63 5 (.slice (some ⟨g, 0, none⟩) (stops.length + 1) cap) (stops.length + 1) (snCells stops ++ x.cells)) :
    RunInv (w3.setCell ⟨Q, 4, none⟩ (.slice (some ⟨g, 0, none⟩) (stops.length + 1) cap)) M G H R V Q s outs (stops ++ [x]) k vo (.slice (some ⟨g, 0, none⟩) (stops.length + 1) cap) vp m := by
  obtain ⟨np, xs, hp1, hp2⟩ := h.pl
  have hk3 : Keep (fun i => some i = vs.ownBlock) w2 w3 := (hz.mono (fun _ _ h => h.elim)).grown hg (fun i e _ => e.symm)
  have hq : ∀ i, i ≤ Q → ¬ some i = vs.ownBlock := fun i hi e => by have := (h.ns i e.symm).1; omega
  have hkq := keep_q w3 Q 4 (.slice (some ⟨g, 0, none⟩) (stops.length + 1) cap)
  have hb := hk3.block Q h.iq (hq Q (Nat.le_refl _))
  have c : ∀ {o : Nat} {u : Value}, w2.cell? ⟨Q, o, none⟩ = some u → w3.cell? ⟨Q, o, none⟩ = some u := fun hc => (World.cell?_of_block hb).trans hc
  have ho3 := own_keep h.oo hk3 (fun g hg e => own_apart h.oo h.os (by decide) g hg e.symm)
  have hp3 := own_keep hp1 hk3 (fun g hg e => own_apart hp1 h.os (by decide) g hg e.symm)
  have hm3 := h.mom.keep hk3 (hq M (Nat.le_of_lt h.lm)) (hq G (Nat.le_of_lt h.lg)) (hq H (Nat.le_of_lt h.lh))
  have far : ∀ i, Q + 1 ≤ i → ¬ i = Q := fun i hi e => by omega
  refine ⟨hm3.keep hkq (by have := h.lm; omega) (by have := h.lg; omega) (by have := h.lh; omega), cell_set (c h.r0) (by omega), cell_set (c h.r1) (by omega), cell_set (c h.r2) (by omega), cell_set (c h.r3) (by omega), cell_put (c h.r4), frozen_set (fun o => (World.frozen?_of_block hb).trans (h.rf o)), own_keep ho3 hkq (fun g hg => far g (own_in ho3 g hg).1), ?_, ⟨np, xs, own_keep hp3 hkq (fun g hg => far g (own_in hp3 g hg).1), hp2⟩, h.ap, h.lm, h.lg, h.lh⟩
  rw [List.length_append, snCells_snoc]
  exact own_keep hown hkq (fun g hg => far g (own_in hown g hg).1)
/-- A place joins. -/
theorem RunInv.place {y : Value} {np : Nat} {xs : List Value} {g cap B : Nat} (h : RunInv w2 M G H R V Q s outs stops k vo vs vp m) (hz : Keep (fun _ => False) w2 wz) (hg : wz.grownBy w3 vp.ownBlock) (hB : w2.heap.size ≤ B) (hnp : np ≤ m)
    (hown : w3.ownsRow (Q + 1) 3 1 (.slice (some ⟨g, 0, none⟩) (np + 1) cap) (np + 1) (xs ++ [y])) (hat : vp.ownBlock = some g ∨ g = B) :
    RunInv w3 M G H R V Q s outs stops k vo vs (.slice (some ⟨g, 0, none⟩) (np + 1) cap) (m + 1) := by
  have hk3 : Keep (fun i => some i = vp.ownBlock) w2 w3 := (hz.mono (fun _ _ h => h.elim)).grown hg (fun i e _ => e.symm)
  have hq : ∀ i, i ≤ Q → ¬ some i = vp.ownBlock := fun i hi e => by have := (h.np i e.symm).1; omega
  obtain ⟨np', xs', hp1, _⟩ := h.pl
  have hb := hk3.block Q h.iq (hq Q (Nat.le_refl _))
  have c : ∀ {o : Nat} {u : Value}, w2.cell? ⟨Q, o, none⟩ = some u → w3.cell? ⟨Q, o, none⟩ = some u := fun hc => (World.cell?_of_block hb).trans hc
  have ho3 := own_keep h.oo hk3 (fun g hg e => h.ap g hg e.symm)
  have hs3 := own_keep h.os hk3 (fun g hg e => own_apart h.os hp1 (by decide) g hg e.symm)
  have hm3 := h.mom.keep hk3 (hq M (Nat.le_of_lt h.lm)) (hq G (Nat.le_of_lt h.lg)) (hq H (Nat.le_of_lt h.lh))
  refine ⟨hm3, c h.r0, c h.r1, c h.r2, c h.r3, c h.r4, fun o => (World.frozen?_of_block hb).trans (h.rf o), ho3, hs3, ⟨_, _, hown, by omega⟩, ?_, h.lm, h.lg, h.lh⟩
  intro i hi e
  have hig : g = i := by injection e
  subst hig
  rcases hat with hat | hat
  · exact h.ap g hi hat
  · have := (h.no g hi).2; omega
/-- The moment has passed an instruction. -/
theorem RunInv.pass (h : RunInv w M G H R V Q s outs stops k vo vs vp m) (hm : MomB w' M G H R V s') (hk : Keep (Mine M G H) w w') : RunInv w' M G H R V Q s' outs stops k vo vs vp m := by
  have hlm := h.lm
  have hlg := h.lg
  have hlh := h.lh
  have hn : ∀ i, Q ≤ i → ¬ Mine M G H i := fun i hi e => by rcases e with e | e | e <;> omega
  have hb := hk.block Q h.iq (hn Q (Nat.le_refl _))
  obtain ⟨np, xs, hp1, hp2⟩ := h.pl
  exact ⟨hm, (World.cell?_of_block hb).trans h.r0, (World.cell?_of_block hb).trans h.r1, (World.cell?_of_block hb).trans h.r2, (World.cell?_of_block hb).trans h.r3, (World.cell?_of_block hb).trans h.r4, fun o => (World.frozen?_of_block hb).trans (h.rf o), own_keep h.oo hk (fun g hg => hn g (by have := (h.no g hg).1; omega)), own_keep h.os hk (fun g hg => hn g (by have := (h.ns g hg).1; omega)), ⟨np, xs, own_keep hp1 hk (fun g hg => hn g (by have := (h.np g hg).1; omega)), hp2⟩, h.ap, h.lm, h.lg, h.lh⟩
/-- The steps are counted. -/
theorem RunInv.count (h : RunInv w M G H R V Q s outs stops k vo vs vp m) (j : Nat) {z : Int} (hz : z = (j : Int)) : RunInv (w.setCell ⟨Q, 2, none⟩ (.int .i64 z)) M G H R V Q s outs stops j vo vs vp m := by
  rw [hz]
  have hkq := keep_q w Q 2 (.int .i64 (j : Int))
  obtain ⟨np, xs, hp1, hp2⟩ := h.pl
  have far : ∀ i, Q + 1 ≤ i → ¬ i = Q := fun i hi e => by omega
  exact ⟨h.mom.keep hkq (by have := h.lm; omega) (by have := h.lg; omega) (by have := h.lh; omega), cell_set h.r0 (by omega), cell_set h.r1 (by omega), cell_put h.r2, cell_set h.r3 (by omega), cell_set h.r4 (by omega), frozen_set h.rf, own_keep h.oo hkq (fun g hg => far g (h.no g hg).1), own_keep h.os hkq (fun g hg => far g (h.ns g hg).1), ⟨np, xs, own_keep hp1 hkq (fun g hg => far g (h.np g hg).1), hp2⟩, h.ap, h.lm, h.lg, h.lh⟩
theorem RunInv.mono {m' : Nat} (h : RunInv w M G H R V Q s outs stops k vo vs vp m) (hm : m ≤ m') : RunInv w M G H R V Q s outs stops k vo vs vp m' := by
  obtain ⟨np, xs, hp1, hp2⟩ := h.pl
  exact ⟨h.mom, h.r0, h.r1, h.r2, h.r3, h.r4, h.rf, h.oo, h.os, ⟨np, xs, hp1, by omega⟩, h.ap, h.lm, h.lg, h.lh⟩
end
end Go.Proofs.YtoepcplbpochpaaDoor

/-
  A run's mathematics once more: what a step makes of the end, the outputs and what was seen; numbers that are copied.
-/
namespace Go.Proofs.YtoepcplbpochpaaDoor
open Go.RowKit

theorem pre_kind (x : In4) (s : St) : (preSt x s).kind = s.kind := by
  unfold preSt
  repeat' split
  all_goals rfl
theorem step_kind (x : In4) (s : St) (h : 0 ≤ s.kind) : 0 ≤ (stepSt x s).kind := by
  have h' : 0 ≤ (preSt x s).kind := by rw [pre_kind]; exact h
  unfold stepSt doSt
  repeat' split
  all_goals first | exact h' | (show (0 : Int) ≤ 0; decide) | (unfold St.reckon; split; (show (0 : Int) ≤ 1; decide); exact h')
theorem step_outs9 (d a b : Int) (s : St) : (stepSt ⟨9, d, a, b⟩ s).outs = s.outs ++ [s.regs a.toNat] := rfl
theorem step_outs {op d a b : Int} {s : St} (h : op ≠ 9) : (stepSt ⟨op, d, a, b⟩ s).outs = s.outs := by
  have hp : (preSt ⟨op, d, a, b⟩ s).outs = s.outs := by
    unfold preSt
    repeat' split
    all_goals rfl
  rw [← hp]
  unfold stepSt doSt
  simp only
  repeat' split
  all_goals first | rfl | (exfalso; omega) | (exact reckon_outs _ _ _ _ _)
theorem step_stops11 (d a b : Int) (s : St) : (stepSt ⟨11, d, a, b⟩ s).stops = s.stops ++ [⟨a, s.tell 0, s.tell 1, s.tell 2, s.tell 3⟩] := rfl
theorem step_stops {op d a b : Int} {s : St} (h : op ≠ 11) : (stepSt ⟨op, d, a, b⟩ s).stops = s.stops := by
  have hp : (preSt ⟨op, d, a, b⟩ s).stops = s.stops := by
    unfold preSt
    simp only
    repeat' split
    all_goals first | rfl | (exfalso; omega)
  rw [← hp]
  unfold stepSt doSt
  simp only
  repeat' split
  all_goals first | rfl | (exact reckon_stops _ _ _ _ _)

theorem Tryd.size3 : (Tryd.prog.info? 3).map (·.size) = some 1 := by kernel_rfl
theorem mom_of_blocks {w : World} {M G H R V : Nat} {xs : List Int} {cg ch : Array Value} (hM : w.heap[M]? = some (.cells #[.int .i64 0, .slice (some ⟨G, 0, none⟩) R R, .slice none 0 0, .slice (some ⟨H, 0, none⟩) V V, .int .i64 (-1), .int .i64 0] 90 (0, 0)))
    (hG : w.heap[G]? = some (.cells cg 3 (0, 0))) (hH : w.heap[H]? = some (.cells ch 3 (0, 0))) (h1 : ∀ i, i < R → cg[i]? = some (.int .i64 (nth xs i))) (h2 : ∀ i, i < V → ch[i]? = some (.int .i64 (-1))) (n1 : M ≠ G) (n2 : M ≠ H) (n3 : G ≠ H) : MomB w M G H R V (st0 xs) :=
  ⟨(cell_of_row w M 0 _ 90 (0, 0) hM).trans rfl, (cell_of_row w M 1 _ 90 (0, 0) hM).trans rfl, (cell_of_row w M 3 _ 90 (0, 0) hM).trans rfl, (cell_of_row w M 4 _ 90 (0, 0) hM).trans rfl, (cell_of_row w M 5 _ 90 (0, 0) hM).trans rfl,
   fun i hi => (cell_of_row w G i _ 3 (0, 0) hG).trans (h1 i hi), fun i hi => (cell_of_row w H i _ 3 (0, 0) hH).trans (h2 i hi), fun o => by simp [World.frozen?, hM], fun o => by simp [World.frozen?, hG], fun o => by simp [World.frozen?, hH],
   (Array.getElem?_eq_some_iff.1 hG).1, (Array.getElem?_eq_some_iff.1 hH).1, n1, n2, n3, .inr rfl⟩
theorem held_ints {w : World} {ao : Option Addr} {xs : List Int} (h : HeldI w ao xs) : 0 < xs.length → ∃ ad, ao = some ad ∧ ∀ j v, (intCells xs)[j]? = some v → w.cell? (ad.add j) = some v := fun h0 => by
  rcases h with h | ⟨b, off, e, _, hc⟩
  · subst h; exact absurd h0 (by simp)
  · refine ⟨_, e, fun j v hv => ?_⟩
    have hj : j < xs.length := by
      rcases Nat.lt_or_ge j xs.length with h | h
      · exact h
      · rw [List.getElem?_eq_none (by rw [intCells_len]; exact h)] at hv; cases hv
    have hadd : (⟨b, off, none⟩ : Addr).add j = ⟨b, off + j, none⟩ := by unfold Addr.add; split <;> simp_all
    rw [hadd, hc j hj]
    unfold intCells at hv
    rw [List.getElem?_map, List.getElem?_eq_getElem hj] at hv
    unfold nth
    rw [List.getD_eq_getElem?_getD, List.getElem?_eq_getElem hj]
    exact hv
theorem copied_regs {xs : List Int} {cs : Array Value} {n : Nat} (hc : ∀ i, i < n → cs[i]? = some (.int .i64 0)) : ∀ i, i < n → (intCells xs ++ cs.toList.drop (intCells xs).length).toArray[i]? = some (.int .i64 (nth xs i)) := fun i hi => by
  rw [List.getElem?_toArray]
  rcases Nat.lt_or_ge i xs.length with h | h
  · rw [List.getElem?_append_left (by rw [intCells_len]; exact h)]
    unfold intCells nth
    rw [List.getElem?_map, List.getElem?_eq_getElem h, List.getD_eq_getElem?_getD, List.getElem?_eq_getElem h]
    rfl
  · rw [List.getElem?_append_right (by rw [intCells_len]; exact h), List.getElem?_drop, intCells_len, show xs.length + (i - xs.length) = i by omega, nth_past xs h, Array.getElem?_toList]
    exact hc i hi
end Go.Proofs.YtoepcplbpochpaaDoor

/-
  What the document's own runs answer, of a right program and of its unit.
-/
namespace Go.Proofs.YtoepcplbpochpaaDoor
open Go.RowKit

/-- What the document's run of a program answers. -/
def RefProg : Prop := ∀ (P R V : Int) (L : List In4) (ac aa : Option Addr) (cc ca : Nat) (xs : List Int) (fuel : Int) (w : World), HeldIns w ac L → HeldI w aa xs → L.length ≤ 9223372036854775807 → xs.length ≤ 9223372036854775807 →
    Calls Tryd.prog 18 #[.agg #[.int .i64 P, .int .i64 R, .int .i64 V, .slice ac L.length cc], .slice aa xs.length ca, .int .i64 fuel] w (fun e w' => ∃ v vp, e = .returned (.tuple #[v, vp, .int .i64 (runE P R V L xs fuel).1]) ∧ ResOf w' w.heap.size v (runE P R V L xs fuel).2 ∧ Below w.heap.size w w')
/-- What the document's run of a unit answers. -/
def RefUnit : Prop := ∀ (K S P V : Int) (L : List In4) (T : ByteArray) (ac aa : Option Addr) (cc ca : Nat) (xs : List Int) (fuel : Int) (w : World), HeldIns w ac L → HeldI w aa xs → L.length ≤ 9223372036854775807 → xs.length ≤ 9223372036854775807 → T.size ≤ maxLen →
    Calls Tryd.prog 24 #[.agg #[.int .i64 K, .int .i64 S, .int .i64 P, .int .i64 V, .slice ac L.length cc, .string T], .slice aa xs.length ca, .int .i64 fuel] w (RunPost w (runU K S P V L T (tabOf T) xs fuel))
theorem ref_run (RP : RefProg) {P R V : Nat} {L : List In4} (hp : RightP P R V L) {xs : List Int} (hx : ArgsOk xs P) (ac aa : Option Addr) (cc ca f : Nat) (hf : f ≤ 100000) (w : World) (hH : HeldIns w ac L) (hA : HeldI w aa xs) :
    Calls Tryd.prog 18 #[.agg #[.int .i64 P, .int .i64 R, .int .i64 V, .slice ac L.length cc], .slice aa xs.length ca, .int .i64 f] w (fun e w' => ∃ v vp, e = .returned (.tuple #[v, vp, .int .i64 0]) ∧ ResOf w' w.heap.size v (runSt L f (st0 xs)) ∧ Below w.heap.size w w') := by
  have h := RP P R V L ac aa cc ca xs f w hH hA (by have := hp.n40; omega) (by have := hp.p4; have := hx.len; omega)
  rw [runE_ok hp hx hf] at h
  exact h
theorem ref_mach (RU : RefUnit) {P R V K : Nat} {L : List In4} (hp : RightP P R V L) (hK : 2 ≤ K) (hK' : K ≤ 16) {xs : List Int} (hx : ArgsOk xs P) (uo aa : Option Addr) (uc ca f : Nat) (hf : f ≤ 100000) (w : World) (hH : HeldIns w uo (cmpC P R K L)) (hA : HeldI w aa xs) :
    Calls Tryd.prog 24 #[.agg #[.int .i64 K, .int .i64 (slotsB L P R K), .int .i64 P, .int .i64 V, .slice uo (cmpC P R K L).length uc, .string (encT (cmpR P R V K L))], .slice aa xs.length ca, .int .i64 f] w (RunPost w (0, runSt (cmpC P R K L) f (stU (cmpR P R V K L) none xs))) := by
  have hTs : (encT (cmpR P R V K L)).size ≤ maxLen := Nat.le_trans (tab_size (unit_ok hp hK hK').2) (by unfold maxLen; omega)
  have hCl : (cmpC P R K L).length ≤ 9223372036854775807 := by
    rw [cmpC_len]
    have := wTo_len (homS L R K) (homA L R K) K (liveB L 0) P L L.length
    have := hp.p4
    have := hp.n40
    unfold cmpQ; omega
  have h := RU K (slotsB L P R K) P V (cmpC P R K L) (encT (cmpR P R V K L)) uo aa uc ca xs f w hH hA hCl (by have := hp.p4; have := hx.len; omega) hTs
  rw [runU_ok hp hK hK' hx hf] at h
  exact h
/-- Behind the document's run of a program: its result, boxed. -/
theorem after_prog {w w6 : World} {s : St} {v : Value} (h : ResOf w6 w.heap.size v s) (hb : Below w.heap.size w w6) : ∃ oo oc so sc, v = .agg #[.int .i64 s.kind, .int .i64 s.val, .int .i64 (s.steps : Int), .slice oo s.outs.length oc, .slice so s.stops.length sc] ∧
    ∃ w7, w7 = w6.alloc (.cells #[.int .i64 s.kind, .int .i64 s.val, .int .i64 (s.steps : Int), .slice oo s.outs.length oc, .slice so s.stops.length sc] 37) ∧ Hid (ResAt w7 w6.heap.size w.heap.size s oo oc so sc) ∧ Hid (Below w.heap.size w w7) ∧ w.heap.size ≤ w6.heap.size := by
  obtain ⟨vo, vs, rfl, ho, hs⟩ := h
  obtain ⟨oo, oc, rfl, _, _⟩ := own_heldI ho
  obtain ⟨so, sc, rfl, _, _⟩ := own_heldS hs
  refine ⟨oo, oc, so, sc, rfl, _, rfl, ⟨heap_alloc_new _ _, ?_, ?_⟩, hb.trans ((below_alloc _ _).mono hb.size), hb.size⟩
  · exact own_keep ho (Keep.of_below (below_alloc _ _) (fun _ => False)) (fun _ _ h => h)
  · exact own_keep hs (Keep.of_below (below_alloc _ _) (fun _ => False)) (fun _ _ h => h)
theorem step_len (x : In4) (s : St) : (stepSt x s).stops.length ≤ s.stops.length + 1 := by
  by_cases h : x.op = 11
  · obtain ⟨op, d, a, b⟩ := x
    simp only at h
    subst h
    rw [step_stops11, List.length_append]; exact Nat.le_refl _
  · obtain ⟨op, d, a, b⟩ := x
    rw [step_stops h]; omega
theorem run_len (C : List In4) : ∀ (m : Nat) (s : St), (runSt C m s).stops.length ≤ s.stops.length + m
  | 0, _ => Nat.le_refl _
  | m + 1, s => by
    cases h : s.on with
    | false => rw [run_off _ _ _ h]; omega
    | true =>
      rw [run_on (by omega) h, Nat.add_sub_cancel]
      have h1 := run_len C m (stepSt (inAt C s.at_) s)
      have h2 := step_len (inAt C s.at_) s
      omega

end Go.Proofs.YtoepcplbpochpaaDoor

/-
  The document's own run in memory, with the places of its Stops: the moment, the result so far, and the lists that the run owns.
-/
namespace Go.Proofs.YtoepcplbpochpaaDoor
open Go.RowKit

/-- The document's run: its moment (of the state s), its result's block Q, the outputs, what was seen, the places. -/
structure PlInv (w : World) (M G H R V Q : Nat) (s : St) (outs : List Int) (stops : List Sn) (k : Nat) (vo vs vp : Value) (m : List Int) : Prop where
  mom : MomB w M G H R V s
  r0 : w.cell? ⟨Q, 0, none⟩ = some (.int .i64 2)
  r1 : w.cell? ⟨Q, 1, none⟩ = some (.int .i64 0)
  r2 : w.cell? ⟨Q, 2, none⟩ = some (.int .i64 (k : Int))
  r3 : w.cell? ⟨Q, 3, none⟩ = some vo
  r4 : w.cell? ⟨Q, 4, none⟩ = some vs
  rf : ∀ o, w.frozen? ⟨Q, o, none⟩ = false
  oo : w.ownsRow (Q + 1) 3 1 vo outs.length (intCells outs)
  os : w.ownsRow (Q + 1) 63 5 vs stops.length (snCells stops)
  pl : w.ownsRow (Q + 1) 3 1 vp m.length (intCells m)
  ap : ∀ g, vo.ownBlock = some g → vp.ownBlock ≠ some g
  lm : M < Q
  lg : G < Q
  lh : H < Q
section
variable {w w' w2 wz w3 : World} {M G H R V Q : Nat} {s s' : St} {outs : List Int} {stops : List Sn} {k : Nat} {m : List Int} {vo vs vp : Value}
theorem PlInv.iq (h : PlInv w M G H R V Q s outs stops k vo vs vp m) : Q < w.heap.size := World.block_lt_of_cell? w ⟨Q, 0, none⟩ h.r0
theorem PlInv.no (h : PlInv w M G H R V Q s outs stops k vo vs vp m) : ∀ g, vo.ownBlock = some g → Q + 1 ≤ g ∧ g < w.heap.size := own_in h.oo
theorem PlInv.ns (h : PlInv w M G H R V Q s outs stops k vo vs vp m) : ∀ g, vs.ownBlock = some g → Q + 1 ≤ g ∧ g < w.heap.size := own_in h.os
theorem PlInv.np (h : PlInv w M G H R V Q s outs stops k vo vs vp m) : ∀ g, vp.ownBlock = some g → Q + 1 ≤ g ∧ g < w.heap.size := own_in h.pl

/-- Where the moment, the result and the three lists lie in blocks that are kept. -/
theorem PlInv.keep {S : Nat → Prop} (h : PlInv w M G H R V Q s outs stops k vo vs vp m) (hk : Keep S w w') (hQ : ∀ i, i ≤ Q → ¬ S i) (ho : ∀ g, vo.ownBlock = some g → ¬ S g) (hs : ∀ g, vs.ownBlock = some g → ¬ S g) (hp : ∀ g, vp.ownBlock = some g → ¬ S g) :
    PlInv w' M G H R V Q s outs stops k vo vs vp m := by
  have hb := hk.block Q h.iq (hQ Q (Nat.le_refl _))
  have hp1 := h.pl
  exact ⟨h.mom.keep hk (hQ M (Nat.le_of_lt h.lm)) (hQ G (Nat.le_of_lt h.lg)) (hQ H (Nat.le_of_lt h.lh)), (World.cell?_of_block hb).trans h.r0, (World.cell?_of_block hb).trans h.r1, (World.cell?_of_block hb).trans h.r2, (World.cell?_of_block hb).trans h.r3, (World.cell?_of_block hb).trans h.r4, fun o => (World.frozen?_of_block hb).trans (h.rf o), own_keep h.oo hk ho, own_keep h.os hk hs, own_keep hp1 hk hp, h.ap, h.lm, h.lg, h.lh⟩
theorem PlInv.grow (h : PlInv w M G H R V Q s outs stops k vo vs vp m) (hk : Keep (fun _ => False) w w') : PlInv w' M G H R V Q s outs stops k vo vs vp m :=
  h.keep hk (fun _ _ h => h) (fun _ _ h => h) (fun _ _ h => h) (fun _ _ h => h)
/-- An output joins. -/
theorem PlInv.out {y : Int} {g cap : Nat} {B : Nat} (h : PlInv w2 M G H R V Q s outs stops k vo vs vp m) (hz : Keep (fun _ => False) w2 wz) (hg : wz.grownBy w3 vo.ownBlock) (hB : w2.heap.size ≤ B)
    (hown : w3.ownsRow (Q + 1) 3 1 (.slice (some ⟨g, 0, none⟩) (outs.length + 1) cap) (outs.length + 1) (intCells outs ++ [.int .i64 y])) (hat : vo.ownBlock = some g ∨ g = B) :
    PlInv (w3.setCell ⟨Q, 3, none⟩ (.slice (some ⟨g, 0, none⟩) (outs.length + 1) cap)) M G H R V Q s (outs ++ [y]) stops k (.slice (some ⟨g, 0, none⟩) (outs.length + 1) cap) vs vp m := by
  have hk3 : Keep (fun i => some i = vo.ownBlock) w2 w3 := (hz.mono (fun _ _ h => h.elim)).grown hg (fun i e _ => e.symm)
  have hq : ∀ i, i ≤ Q → ¬ some i = vo.ownBlock := fun i hi e => by have := (h.no i e.symm).1; omega
  have hkq := keep_q w3 Q 3 (.slice (some ⟨g, 0, none⟩) (outs.length + 1) cap)
  have hb := hk3.block Q h.iq (hq Q (Nat.le_refl _))
  have c : ∀ {o : Nat} {u : Value}, w2.cell? ⟨Q, o, none⟩ = some u → w3.cell? ⟨Q, o, none⟩ = some u := fun hc => (World.cell?_of_block hb).trans hc
  have hp1 := h.pl
  have hs3 := own_keep h.os hk3 (fun g hg e => own_apart h.os h.oo (by decide) g hg e.symm)
  have hp3 := own_keep hp1 hk3 (fun g hg e => h.ap g e.symm hg)
  have hm3 := h.mom.keep hk3 (hq M (Nat.le_of_lt h.lm)) (hq G (Nat.le_of_lt h.lg)) (hq H (Nat.le_of_lt h.lh))
  have far : ∀ i, Q + 1 ≤ i → ¬ i = Q := fun i hi e => by omega
  refine ⟨hm3.keep hkq (by have := h.lm; omega) (by have := h.lg; omega) (by have := h.lh; omega), cell_set (c h.r0) (by omega), cell_set (c h.r1) (by omega), cell_set (c h.r2) (by omega), cell_put (c h.r3), cell_set (c h.r4) (by omega), frozen_set (fun o => (World.frozen?_of_block hb).trans (h.rf o)), ?_, own_keep hs3 hkq (fun g hg => far g (own_in hs3 g hg).1), own_keep hp3 hkq (fun g hg => far g (own_in hp3 g hg).1), ?_, h.lm, h.lg, h.lh⟩
  · rw [List.length_append, intCells_snoc]
    exact own_keep hown hkq (fun g hg => far g (own_in hown g hg).1)
  · intro i hi e
    have hig : i = g := by injection hi with hi; exact hi.symm
    subst hig
    rcases hat with hat | hat
    · exact h.ap i hat e
    · have := (h.np i e).2; omega
/-- What is seen joins. -/
theorem PlInv.see {x : Sn} {g cap : Nat} (h : PlInv w2 M G H R V Q s outs stops k vo vs vp m) (hz : Keep (fun _ => False) w2 wz) (hg : wz.grownBy w3 vs.ownBlock)
    (hown : w3.ownsRow (Q + 1) 63 5 (.slice (some ⟨g, 0, none⟩) (stops.length + 1) cap) (stops.length + 1) (snCells stops ++ x.cells)) :
    PlInv (w3.setCell ⟨Q, 4, none⟩ (.slice (some ⟨g, 0, none⟩) (stops.length + 1) cap)) M G H R V Q s outs (stops ++ [x]) k vo (.slice (some ⟨g, 0, none⟩) (stops.length + 1) cap) vp m := by
  have hp1 := h.pl
  have hk3 : Keep (fun i => some i = vs.ownBlock) w2 w3 := (hz.mono (fun _ _ h => h.elim)).grown hg (fun i e _ => e.symm)
  have hq : ∀ i, i ≤ Q → ¬ some i = vs.ownBlock := fun i hi e => by have := (h.ns i e.symm).1; omega
  have hkq := keep_q w3 Q 4 (.slice (some ⟨g, 0, none⟩) (stops.length + 1) cap)
  have hb := hk3.block Q h.iq (hq Q (Nat.le_refl _))
  have c : ∀ {o : Nat} {u : Value}, w2.cell? ⟨Q, o, none⟩ = some u → w3.cell? ⟨Q, o, none⟩ = some u := fun hc => (World.cell?_of_block hb).trans hc
  have ho3 := own_keep h.oo hk3 (fun g hg e => own_apart h.oo h.os (by decide) g hg e.symm)
  have hp3 := own_keep hp1 hk3 (fun g hg e => own_apart hp1 h.os (by decide) g hg e.symm)
  have hm3 := h.mom.keep hk3 (hq M (Nat.le_of_lt h.lm)) (hq G (Nat.le_of_lt h.lg)) (hq H (Nat.le_of_lt h.lh))
  have far : ∀ i, Q + 1 ≤ i → ¬ i = Q := fun i hi e => by omega
  refine ⟨hm3.keep hkq (by have := h.lm; omega) (by have := h.lg; omega) (by have := h.lh; omega), cell_set (c h.r0) (by omega), cell_set (c h.r1) (by omega), cell_set (c h.r2) (by omega), cell_set (c h.r3) (by omega), cell_put (c h.r4), frozen_set (fun o => (World.frozen?_of_block hb).trans (h.rf o)), own_keep ho3 hkq (fun g hg => far g (own_in ho3 g hg).1), ?_, own_keep hp3 hkq (fun g hg => far g (own_in hp3 g hg).1), h.ap, h.lm, h.lg, h.lh⟩
  rw [List.length_append, snCells_snoc]
  exact own_keep hown hkq (fun g hg => far g (own_in hown g hg).1)
/-- A place joins. -/
theorem PlInv.place {y : Int} {g cap B : Nat} (h : PlInv w2 M G H R V Q s outs stops k vo vs vp m) (hz : Keep (fun _ => False) w2 wz) (hg : wz.grownBy w3 vp.ownBlock) (hB : w2.heap.size ≤ B)
    (hown : w3.ownsRow (Q + 1) 3 1 (.slice (some ⟨g, 0, none⟩) (m.length + 1) cap) (m.length + 1) (intCells m ++ [.int .i64 y])) (hat : vp.ownBlock = some g ∨ g = B) :
    PlInv w3 M G H R V Q s outs stops k vo vs (.slice (some ⟨g, 0, none⟩) (m.length + 1) cap) (m ++ [y]) := by
  have hk3 : Keep (fun i => some i = vp.ownBlock) w2 w3 := (hz.mono (fun _ _ h => h.elim)).grown hg (fun i e _ => e.symm)
  have hq : ∀ i, i ≤ Q → ¬ some i = vp.ownBlock := fun i hi e => by have := (h.np i e.symm).1; omega
  have hp1 := h.pl
  have hb := hk3.block Q h.iq (hq Q (Nat.le_refl _))
  have c : ∀ {o : Nat} {u : Value}, w2.cell? ⟨Q, o, none⟩ = some u → w3.cell? ⟨Q, o, none⟩ = some u := fun hc => (World.cell?_of_block hb).trans hc
  have ho3 := own_keep h.oo hk3 (fun g hg e => h.ap g hg e.symm)
  have hs3 := own_keep h.os hk3 (fun g hg e => own_apart h.os hp1 (by decide) g hg e.symm)
  have hm3 := h.mom.keep hk3 (hq M (Nat.le_of_lt h.lm)) (hq G (Nat.le_of_lt h.lg)) (hq H (Nat.le_of_lt h.lh))
  refine ⟨hm3, c h.r0, c h.r1, c h.r2, c h.r3, c h.r4, fun o => (World.frozen?_of_block hb).trans (h.rf o), ho3, hs3, by rw [List.length_append, intCells_snoc]; exact hown, ?_, h.lm, h.lg, h.lh⟩
  intro i hi e
  have hig : g = i := by injection e
  subst hig
  rcases hat with hat | hat
  · exact h.ap g hi hat
  · have := (h.no g hi).2; omega
/-- The moment has passed an instruction. -/
theorem PlInv.pass (h : PlInv w M G H R V Q s outs stops k vo vs vp m) (hm : MomB w' M G H R V s') (hk : Keep (Mine M G H) w w') : PlInv w' M G H R V Q s' outs stops k vo vs vp m := by
  have hlm := h.lm
  have hlg := h.lg
  have hlh := h.lh
  have hn : ∀ i, Q ≤ i → ¬ Mine M G H i := fun i hi e => by rcases e with e | e | e <;> omega
  have hb := hk.block Q h.iq (hn Q (Nat.le_refl _))
  have hp1 := h.pl
  exact ⟨hm, (World.cell?_of_block hb).trans h.r0, (World.cell?_of_block hb).trans h.r1, (World.cell?_of_block hb).trans h.r2, (World.cell?_of_block hb).trans h.r3, (World.cell?_of_block hb).trans h.r4, fun o => (World.frozen?_of_block hb).trans (h.rf o), own_keep h.oo hk (fun g hg => hn g (by have := (h.no g hg).1; omega)), own_keep h.os hk (fun g hg => hn g (by have := (h.ns g hg).1; omega)), own_keep hp1 hk (fun g hg => hn g (by have := (h.np g hg).1; omega)), h.ap, h.lm, h.lg, h.lh⟩
/-- The steps are counted. -/
theorem PlInv.count (h : PlInv w M G H R V Q s outs stops k vo vs vp m) (j : Nat) {z : Int} (hz : z = (j : Int)) : PlInv (w.setCell ⟨Q, 2, none⟩ (.int .i64 z)) M G H R V Q s outs stops j vo vs vp m := by
  rw [hz]
  have hkq := keep_q w Q 2 (.int .i64 (j : Int))
  have hp1 := h.pl
  have far : ∀ i, Q + 1 ≤ i → ¬ i = Q := fun i hi e => by omega
  exact ⟨h.mom.keep hkq (by have := h.lm; omega) (by have := h.lg; omega) (by have := h.lh; omega), cell_set h.r0 (by omega), cell_set h.r1 (by omega), cell_put h.r2, cell_set h.r3 (by omega), cell_set h.r4 (by omega), frozen_set h.rf, own_keep h.oo hkq (fun g hg => far g (h.no g hg).1), own_keep h.os hkq (fun g hg => far g (h.ns g hg).1), own_keep hp1 hkq (fun g hg => far g (h.np g hg).1), h.ap, h.lm, h.lg, h.lh⟩
end
/-- The places of the Stops of a run. -/
def plI (L : List In4) : Nat → St → List Int
  | 0, _ => []
  | m + 1, s => if s.on = true then (if (inAt L s.at_).op = 11 then [(s.at_ : Int)] else []) ++ plI L m (stepSt (inAt L s.at_) s) else []
theorem plI_off {L : List In4} {s : St} (h : s.on = false) : ∀ m, plI L m s = []
  | 0 => rfl
  | m + 1 => by show (if s.on = true then _ else []) = _; rw [if_neg (by rw [h]; decide)]
theorem plI_on {L : List In4} {s : St} (h : s.on = true) {m : Nat} (hm : 0 < m) : plI L m s = (if (inAt L s.at_).op = 11 then [(s.at_ : Int)] else []) ++ plI L (m - 1) (stepSt (inAt L s.at_) s) := by
  obtain ⟨n, rfl⟩ : ∃ n, m = n + 1 := ⟨m - 1, by omega⟩
  show (if s.on = true then _ else []) = _
  rw [if_pos h]; rfl
end Go.Proofs.YtoepcplbpochpaaDoor

/-
  Plain mathematics: where what comes of an instruction lies in the unit's code, and what a straight piece of code does.
-/
namespace Go.Proofs.YtoepcplbpochpaaDoor
open Go.RowKit

theorem wTo_split (hs : Nat → Bool) (ha : Nat → Nat) (K : Nat) (s : Nat → Bool) (P : Nat) (L : List In4) (i : Nat) : ∀ d, ∃ T, wTo hs ha K s P L (i + d) = wTo hs ha K s P L i ++ T
  | 0 => ⟨[], (List.append_nil _).symm⟩
  | d + 1 => by
    obtain ⟨T, hT⟩ := wTo_split hs ha K s P L i d
    exact ⟨T ++ insC hs ha K (inAt L (i + d)), by show wTo hs ha K s P L (i + d) ++ _ = _; rw [hT, List.append_assoc]; rfl⟩
theorem inAt_left {A B : List In4} {i : Nat} (h : i < A.length) : inAt (A ++ B) i = inAt A i := by
  unfold inAt; rw [List.getD_eq_getElem?_getD, List.getD_eq_getElem?_getD, List.getElem?_append_left h]
theorem inAt_right (A B : List In4) (i : Nat) : inAt (A ++ B) (A.length + i) = inAt B i := by
  unfold inAt; rw [List.getD_eq_getElem?_getD, List.getD_eq_getElem?_getD, List.getElem?_append_right (by omega), show A.length + i - A.length = i by omega]
/-- What comes of the instruction i lies from its place on. -/
theorem code_at {P R K : Nat} {L : List In4} {i j : Nat} (hi : i < L.length) (hj : j < (insC (homS L R K) (homA L R K) K (inAt L i)).length) :
    inAt (cmpC P R K L) (cmpQ P R K L i + j) = tgt (cmpS P R K L) (inAt (insC (homS L R K) (homA L R K) K (inAt L i)) j) := by
  obtain ⟨T, hT⟩ := wTo_split (homS L R K) (homA L R K) K (liveB L 0) P L (i + 1) (L.length - (i + 1))
  rw [show i + 1 + (L.length - (i + 1)) = L.length by omega] at hT
  have e : wTo (homS L R K) (homA L R K) K (liveB L 0) P L L.length = wTo (homS L R K) (homA L R K) K (liveB L 0) P L i ++ (insC (homS L R K) (homA L R K) K (inAt L i) ++ T) := by
    rw [hT]; show (wTo (homS L R K) (homA L R K) K (liveB L 0) P L i ++ _) ++ T = _; rw [List.append_assoc]
  unfold cmpC codeB
  rw [inAt_map]
  · unfold cmpQ; rw [e, inAt_right, inAt_left hj]; rfl
  · unfold cmpQ; rw [e, List.length_append, List.length_append]; omega
/-- The args lie ahead of all. -/
theorem code_load {P R K : Nat} {L : List In4} {j : Nat} (hj : j < cmpQ P R K L 0) : inAt (cmpC P R K L) j = tgt (cmpS P R K L) (inAt (loadC (homS L R K) (homA L R K) (liveB L 0) P) j) := by
  obtain ⟨T, hT⟩ := wTo_split (homS L R K) (homA L R K) K (liveB L 0) P L 0 L.length
  rw [Nat.zero_add] at hT
  unfold cmpQ at hj
  unfold cmpC codeB
  rw [inAt_map]
  · rw [hT, inAt_left hj]; rfl
  · rw [hT, List.length_append]; omega

/-- A piece of code that goes straight on. -/
def exec : List In4 → St → St
  | [], t => t
  | y :: l, t => exec l (stepSt y t)
/-- An instruction that goes straight on. -/
def straight (y : In4) : Prop := y.op = 0 ∨ y.op = 1 ∨ y.op = 9 ∨ y.op = 11 ∨ y.op = 15 ∨ y.op = 16
theorem step_straight {y : In4} (h : straight y) (t : St) : (stepSt y t).on = t.on ∧ (stepSt y t).at_ = t.at_ + 1 := by
  obtain ⟨op, d, a, b⟩ := y
  unfold straight at h
  simp only at h
  rcases h with rfl | rfl | rfl | rfl | rfl | rfl <;> exact ⟨rfl, rfl⟩
/-- A piece of code whose instructions, but for the last, go straight on is done one by one. -/
theorem run_exec {C : List In4} : ∀ (l : List In4) (y : In4) (t : St), t.on = true → (∀ j, j < (l ++ [y]).length → inAt C (t.at_ + j) = inAt (l ++ [y]) j) → (∀ x ∈ l, straight x) → runSt C (l ++ [y]).length t = stepSt y (exec l t)
  | [], y, t, hon, hc, _ => by
    show runSt C 1 t = stepSt y t
    have := hc 0 (by simp)
    rw [Nat.add_zero] at this
    rw [run_on (by omega) hon, this]; rfl
  | x :: l, y, t, hon, hc, hs => by
    have h0 := hc 0 (by simp)
    rw [Nat.add_zero] at h0
    have h0' : inAt C t.at_ = x := h0
    obtain ⟨s1, s2⟩ := step_straight (hs x List.mem_cons_self) t
    rw [show (x :: l ++ [y]).length = (l ++ [y]).length + 1 by simp, run_on (by omega) hon, h0', Nat.add_sub_cancel]
    exact run_exec l y (stepSt x t) (s1.trans hon) (fun j hj => by
      have := hc (j + 1) (by simp at hj ⊢; omega)
      rw [s2, show t.at_ + 1 + j = t.at_ + (j + 1) by omega, this]; rfl) (fun z hz => hs z (List.mem_cons_of_mem _ hz))
theorem run_add (C : List In4) : ∀ (a b : Nat) (t : St), runSt C (a + b) t = runSt C b (runSt C a t)
  | 0, b, t => by rw [Nat.zero_add]; rfl
  | a + 1, b, t => by
    cases h : t.on with
    | false => rw [run_off C _ t h, run_off C _ t h, run_off C _ t h]
    | true => rw [run_on (by omega) h, run_on (m := a + 1) (by omega) h, show a + 1 + b - 1 = a + b by omega, show a + 1 - 1 = a by omega]; exact run_add C a b _
/-- More fuel: what has been shown stays, and what is to come is shown behind it. -/
theorem step_outs_pre (x : In4) (s : St) : ∃ o, (stepSt x s).outs = s.outs ++ o := by
  by_cases h : x.op = 9
  · obtain ⟨op, d, a, b⟩ := x
    simp only at h
    subst h
    exact ⟨_, step_outs9 d a b s⟩
  · obtain ⟨op, d, a, b⟩ := x
    exact ⟨[], by rw [step_outs h, List.append_nil]⟩
theorem step_stops_pre (x : In4) (s : St) : ∃ o, (stepSt x s).stops = s.stops ++ o := by
  by_cases h : x.op = 11
  · obtain ⟨op, d, a, b⟩ := x
    simp only at h
    subst h
    exact ⟨_, step_stops11 d a b s⟩
  · obtain ⟨op, d, a, b⟩ := x
    exact ⟨[], by rw [step_stops h, List.append_nil]⟩
theorem run_pre (C : List In4) : ∀ (m : Nat) (t : St), (∃ o, (runSt C m t).outs = t.outs ++ o) ∧ (∃ o, (runSt C m t).stops = t.stops ++ o)
  | 0, t => ⟨⟨[], (List.append_nil _).symm⟩, ⟨[], (List.append_nil _).symm⟩⟩
  | m + 1, t => by
    cases h : t.on with
    | false => rw [run_off C _ t h]; exact ⟨⟨[], (List.append_nil _).symm⟩, ⟨[], (List.append_nil _).symm⟩⟩
    | true =>
      rw [run_on (by omega) h, Nat.add_sub_cancel]
      obtain ⟨⟨o1, h1⟩, ⟨o2, h2⟩⟩ := run_pre C m (stepSt (inAt C t.at_) t)
      obtain ⟨o3, h3⟩ := step_outs_pre (inAt C t.at_) t
      obtain ⟨o4, h4⟩ := step_stops_pre (inAt C t.at_) t
      exact ⟨⟨o3 ++ o1, by rw [h1, h3, List.append_assoc]⟩, ⟨o4 ++ o2, by rw [h2, h4, List.append_assoc]⟩⟩
end Go.Proofs.YtoepcplbpochpaaDoor
