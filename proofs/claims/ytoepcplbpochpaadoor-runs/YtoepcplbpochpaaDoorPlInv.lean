/-
  The document's own run in memory, with the places of its Stops: the moment, the result so far, and the lists that the run owns.
-/
import Derived.Test.YtoepcplbpochpaaDoorRunInv
namespace Go.Proofs.YtoepcplbpochpaaDoor
open Go.RowKit

/-- The document's run: its moment (of the state s), its result's block Q, the outputs, what was seen, the places. -/
structure PlInv (w : World) (M G H R V Q : Nat) (s : St) (outs : List Int) (stops : List Sn) (k : Nat) (vo vs vp : Value) (m : List Int) : Prop where
  mom : MomB w M G H R V s
  r0 : w.cell? ⟨Q, 0, none⟩ = some (.int .i64 2)
  r1 : w.cell? ⟨Q, 1, none⟩ = some (.int .i64 0)
  r2 : w.cell? ⟨Q, 2, none⟩ = some (.int .i64 (k : Int))
  r3 : w.cell? ⟨Q, 3, none⟩ = some vo
  r4 : w.cell? ⟨Q, 4, none⟩ = some vs
  rf : ∀ o, w.frozen? ⟨Q, o, none⟩ = false
  oo : w.ownsRow (Q + 1) 3 1 vo outs.length (intCells outs)
  os : w.ownsRow (Q + 1) 63 5 vs stops.length (snCells stops)
  pl : w.ownsRow (Q + 1) 3 1 vp m.length (intCells m)
  ap : ∀ g, vo.ownBlock = some g → vp.ownBlock ≠ some g
  lm : M < Q
  lg : G < Q
  lh : H < Q
section
variable {w w' w2 wz w3 : World} {M G H R V Q : Nat} {s s' : St} {outs : List Int} {stops : List Sn} {k : Nat} {m : List Int} {vo vs vp : Value}
theorem PlInv.iq (h : PlInv w M G H R V Q s outs stops k vo vs vp m) : Q < w.heap.size := World.block_lt_of_cell? w ⟨Q, 0, none⟩ h.r0
theorem PlInv.no (h : PlInv w M G H R V Q s outs stops k vo vs vp m) : ∀ g, vo.ownBlock = some g → Q + 1 ≤ g ∧ g < w.heap.size := own_in h.oo
theorem PlInv.ns (h : PlInv w M G H R V Q s outs stops k vo vs vp m) : ∀ g, vs.ownBlock = some g → Q + 1 ≤ g ∧ g < w.heap.size := own_in h.os
theorem PlInv.np (h : PlInv w M G H R V Q s outs stops k vo vs vp m) : ∀ g, vp.ownBlock = some g → Q + 1 ≤ g ∧ g < w.heap.size := own_in h.pl

/-- Where the moment, the result and the three lists lie in blocks that are kept. -/
theorem PlInv.keep {S : Nat → Prop} (h : PlInv w M G H R V Q s outs stops k vo vs vp m) (hk : Keep S w w') (hQ : ∀ i, i ≤ Q → ¬ S i) (ho : ∀ g, vo.ownBlock = some g → ¬ S g) (hs : ∀ g, vs.ownBlock = some g → ¬ S g) (hp : ∀ g, vp.ownBlock = some g → ¬ S g) :
    PlInv w' M G H R V Q s outs stops k vo vs vp m := by
  have hb := hk.block Q h.iq (hQ Q (Nat.le_refl _))
  have hp1 := h.pl
  exact ⟨h.mom.keep hk (hQ M (Nat.le_of_lt h.lm)) (hQ G (Nat.le_of_lt h.lg)) (hQ H (Nat.le_of_lt h.lh)), (World.cell?_of_block hb).trans h.r0, (World.cell?_of_block hb).trans h.r1, (World.cell?_of_block hb).trans h.r2, (World.cell?_of_block hb).trans h.r3, (World.cell?_of_block hb).trans h.r4, fun o => (World.frozen?_of_block hb).trans (h.rf o), own_keep h.oo hk ho, own_keep h.os hk hs, own_keep hp1 hk hp, h.ap, h.lm, h.lg, h.lh⟩
theorem PlInv.grow (h : PlInv w M G H R V Q s outs stops k vo vs vp m) (hk : Keep (fun _ => False) w w') : PlInv w' M G H R V Q s outs stops k vo vs vp m :=
  h.keep hk (fun _ _ h => h) (fun _ _ h => h) (fun _ _ h => h) (fun _ _ h => h)
/-- An output joins. -/
theorem PlInv.out {y : Int} {g cap : Nat} {B : Nat} (h : PlInv w2 M G H R V Q s outs stops k vo vs vp m) (hz : Keep (fun _ => False) w2 wz) (hg : wz.grownBy w3 vo.ownBlock) (hB : w2.heap.size ≤ B)
    (hown : w3.ownsRow (Q + 1) 3 1 (.slice (some ⟨g, 0, none⟩) (outs.length + 1) cap) (outs.length + 1) (intCells outs ++ [.int .i64 y])) (hat : vo.ownBlock = some g ∨ g = B) :
    PlInv (w3.setCell ⟨Q, 3, none⟩ (.slice (some ⟨g, 0, none⟩) (outs.length + 1) cap)) M G H R V Q s (outs ++ [y]) stops k (.slice (some ⟨g, 0, none⟩) (outs.length + 1) cap) vs vp m := by
  have hk3 : Keep (fun i => some i = vo.ownBlock) w2 w3 := (hz.mono (fun _ _ h => h.elim)).grown hg (fun i e _ => e.symm)
  have hq : ∀ i, i ≤ Q → ¬ some i = vo.ownBlock := fun i hi e => by have := (h.no i e.symm).1; omega
  have hkq := keep_q w3 Q 3 (.slice (some ⟨g, 0, none⟩) (outs.length + 1) cap)
  have hb := hk3.block Q h.iq (hq Q (Nat.le_refl _))
  have c : ∀ {o : Nat} {u : Value}, w2.cell? ⟨Q, o, none⟩ = some u → w3.cell? ⟨Q, o, none⟩ = some u := fun hc => (World.cell?_of_block hb).trans hc
  have hp1 := h.pl
  have hs3 := own_keep h.os hk3 (fun g hg e => own_apart h.os h.oo (by decide) g hg e.symm)
  have hp3 := own_keep hp1 hk3 (fun g hg e => h.ap g e.symm hg)
  have hm3 := h.mom.keep hk3 (hq M (Nat.le_of_lt h.lm)) (hq G (Nat.le_of_lt h.lg)) (hq H (Nat.le_of_lt h.lh))
  have far : ∀ i, Q + 1 ≤ i → ¬ i = Q := fun i hi e => by omega
  refine ⟨hm3.keep hkq (by have := h.lm; omega) (by have := h.lg; omega) (by have := h.lh; omega), cell_set (c h.r0) (by omega), cell_set (c h.r1) (by omega), cell_set (c h.r2) (by omega), cell_put (c h.r3), cell_set (c h.r4) (by omega), frozen_set (fun o => (World.frozen?_of_block hb).trans (h.rf o)), ?_, own_keep hs3 hkq (fun g hg => far g (own_in hs3 g hg).1), own_keep hp3 hkq (fun g hg => far g (own_in hp3 g hg).1), ?_, h.lm, h.lg, h.lh⟩
  · rw [List.length_append, intCells_snoc]
    exact own_keep hown hkq (fun g hg => far g (own_in hown g hg).1)
  · intro i hi e
    have hig : i = g := by injection hi with hi; exact hi.symm
    subst hig
    rcases hat with hat | hat
    · exact h.ap i hat e
    · have := (h.np i e).2; omega
/-- What is seen joins. -/
theorem PlInv.see {x : Sn} {g cap : Nat} (h : PlInv w2 M G H R V Q s outs stops k vo vs vp m) (hz : Keep (fun _ => False) w2 wz) (hg : wz.grownBy w3 vs.ownBlock)
    (hown : w3.ownsRow (Q + 1) 63 5 (.slice (some ⟨g, 0, none⟩) (stops.length + 1) cap) (stops.length + 1) (snCells stops ++ x.cells)) :
    PlInv (w3.setCell ⟨Q, 4, none⟩ (.slice (some ⟨g, 0, none⟩) (stops.length + 1) cap)) M G H R V Q s outs (stops ++ [x]) k vo (.slice (some ⟨g, 0, none⟩) (stops.length + 1) cap) vp m := by
  have hp1 := h.pl
  have hk3 : Keep (fun i => some i = vs.ownBlock) w2 w3 := (hz.mono (fun _ _ h => h.elim)).grown hg (fun i e _ => e.symm)
  have hq : ∀ i, i ≤ Q → ¬ some i = vs.ownBlock := fun i hi e => by have := (h.ns i e.symm).1; omega
  have hkq := keep_q w3 Q 4 (.slice (some ⟨g, 0, none⟩) (stops.length + 1) cap)
  have hb := hk3.block Q h.iq (hq Q (Nat.le_refl _))
  have c : ∀ {o : Nat} {u : Value}, w2.cell? ⟨Q, o, none⟩ = some u → w3.cell? ⟨Q, o, none⟩ = some u := fun hc => (World.cell?_of_block hb).trans hc
  have ho3 := own_keep h.oo hk3 (fun g hg e => own_apart h.oo h.os (by decide) g hg e.symm)
  have hp3 := own_keep hp1 hk3 (fun g hg e => own_apart hp1 h.os (by decide) g hg e.symm)
  have hm3 := h.mom.keep hk3 (hq M (Nat.le_of_lt h.lm)) (hq G (Nat.le_of_lt h.lg)) (hq H (Nat.le_of_lt h.lh))
  have far : ∀ i, Q + 1 ≤ i → ¬ i = Q := fun i hi e => by omega
  refine ⟨hm3.keep hkq (by have := h.lm; omega) (by have := h.lg; omega) (by have := h.lh; omega), cell_set (c h.r0) (by omega), cell_set (c h.r1) (by omega), cell_set (c h.r2) (by omega), cell_set (c h.r3) (by omega), cell_put (c h.r4), frozen_set (fun o => (World.frozen?_of_block hb).trans (h.rf o)), own_keep ho3 hkq (fun g hg => far g (own_in ho3 g hg).1), ?_, own_keep hp3 hkq (fun g hg => far g (own_in hp3 g hg).1), h.ap, h.lm, h.lg, h.lh⟩
  rw [List.length_append, snCells_snoc]
  exact own_keep hown hkq (fun g hg => far g (own_in hown g hg).1)
/-- A place joins. -/
theorem PlInv.place {y : Int} {g cap B : Nat} (h : PlInv w2 M G H R V Q s outs stops k vo vs vp m) (hz : Keep (fun _ => False) w2 wz) (hg : wz.grownBy w3 vp.ownBlock) (hB : w2.heap.size ≤ B)
    (hown : w3.ownsRow (Q + 1) 3 1 (.slice (some ⟨g, 0, none⟩) (m.length + 1) cap) (m.length + 1) (intCells m ++ [.int .i64 y])) (hat : vp.ownBlock = some g ∨ g = B) :
    PlInv w3 M G H R V Q s outs stops k vo vs (.slice (some ⟨g, 0, none⟩) (m.length + 1) cap) (m ++ [y]) := by
  have hk3 : Keep (fun i => some i = vp.ownBlock) w2 w3 := (hz.mono (fun _ _ h => h.elim)).grown hg (fun i e _ => e.symm)
  have hq : ∀ i, i ≤ Q → ¬ some i = vp.ownBlock := fun i hi e => by have := (h.np i e.symm).1; omega
  have hp1 := h.pl
  have hb := hk3.block Q h.iq (hq Q (Nat.le_refl _))
  have c : ∀ {o : Nat} {u : Value}, w2.cell? ⟨Q, o, none⟩ = some u → w3.cell? ⟨Q, o, none⟩ = some u := fun hc => (World.cell?_of_block hb).trans hc
  have ho3 := own_keep h.oo hk3 (fun g hg e => h.ap g hg e.symm)
  have hs3 := own_keep h.os hk3 (fun g hg e => own_apart h.os hp1 (by decide) g hg e.symm)
  have hm3 := h.mom.keep hk3 (hq M (Nat.le_of_lt h.lm)) (hq G (Nat.le_of_lt h.lg)) (hq H (Nat.le_of_lt h.lh))
  refine ⟨hm3, c h.r0, c h.r1, c h.r2, c h.r3, c h.r4, fun o => (World.frozen?_of_block hb).trans (h.rf o), ho3, hs3, by rw [List.length_append, intCells_snoc]; exact hown, ?_, h.lm, h.lg, h.lh⟩
  intro i hi e
  have hig : g = i := by injection e
  subst hig
  rcases hat with hat | hat
  · exact h.ap g hi hat
  · have := (h.no g hi).2; omega
/-- The moment has passed an instruction. -/
theorem PlInv.pass (h : PlInv w M G H R V Q s outs stops k vo vs vp m) (hm : MomB w' M G H R V s') (hk : Keep (Mine M G H) w w') : PlInv w' M G H R V Q s' outs stops k vo vs vp m := by
  have hlm := h.lm
  have hlg := h.lg
  have hlh := h.lh
  have hn : ∀ i, Q ≤ i → ¬ Mine M G H i := fun i hi e => by rcases e with e | e | e <;> omega
  have hb := hk.block Q h.iq (hn Q (Nat.le_refl _))
  have hp1 := h.pl
  exact ⟨hm, (World.cell?_of_block hb).trans h.r0, (World.cell?_of_block hb).trans h.r1, (World.cell?_of_block hb).trans h.r2, (World.cell?_of_block hb).trans h.r3, (World.cell?_of_block hb).trans h.r4, fun o => (World.frozen?_of_block hb).trans (h.rf o), own_keep h.oo hk (fun g hg => hn g (by have := (h.no g hg).1; omega)), own_keep h.os hk (fun g hg => hn g (by have := (h.ns g hg).1; omega)), own_keep hp1 hk (fun g hg => hn g (by have := (h.np g hg).1; omega)), h.ap, h.lm, h.lg, h.lh⟩
/-- The steps are counted. -/
theorem PlInv.count (h : PlInv w M G H R V Q s outs stops k vo vs vp m) (j : Nat) {z : Int} (hz : z = (j : Int)) : PlInv (w.setCell ⟨Q, 2, none⟩ (.int .i64 z)) M G H R V Q s outs stops j vo vs vp m := by
  rw [hz]
  have hkq := keep_q w Q 2 (.int .i64 (j : Int))
  have hp1 := h.pl
  have far : ∀ i, Q + 1 ≤ i → ¬ i = Q := fun i hi e => by omega
  exact ⟨h.mom.keep hkq (by have := h.lm; omega) (by have := h.lg; omega) (by have := h.lh; omega), cell_set h.r0 (by omega), cell_set h.r1 (by omega), cell_put h.r2, cell_set h.r3 (by omega), cell_set h.r4 (by omega), frozen_set h.rf, own_keep h.oo hkq (fun g hg => far g (h.no g hg).1), own_keep h.os hkq (fun g hg => far g (h.ns g hg).1), own_keep hp1 hkq (fun g hg => far g (h.np g hg).1), h.ap, h.lm, h.lg, h.lh⟩
end
/-- The places of the Stops of a run. -/
def plI (L : List In4) : Nat → St → List Int
  | 0, _ => []
  | m + 1, s => if s.on = true then (if (inAt L s.at_).op = 11 then [(s.at_ : Int)] else []) ++ plI L m (stepSt (inAt L s.at_) s) else []
theorem plI_off {L : List In4} {s : St} (h : s.on = false) : ∀ m, plI L m s = []
  | 0 => rfl
  | m + 1 => by show (if s.on = true then _ else []) = _; rw [if_neg (by rw [h]; decide)]
theorem plI_on {L : List In4} {s : St} (h : s.on = true) {m : Nat} (hm : 0 < m) : plI L m s = (if (inAt L s.at_).op = 11 then [(s.at_ : Int)] else []) ++ plI L (m - 1) (stepSt (inAt L s.at_) s) := by
  obtain ⟨n, rfl⟩ : ∃ n, m = n + 1 := ⟨m - 1, by omega⟩
  show (if s.on = true then _ else []) = _
  rw [if_pos h]; rfl
end Go.Proofs.YtoepcplbpochpaaDoor
