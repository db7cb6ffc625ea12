/-
  The built-in copy between two slices whose elements take several cells each; the making of a slice and the filling of it.
-/
import Derived.Test.YtoepcplbpochpaaDoorUnit14
import Derived.Laws.CopyOwn
import Derived.Test.YtoepcplbpochpaaDoorUnit29
import Derived.Test.YtoepcplbpochpaaDoorUnit16

namespace Go.Proofs.YtoepcplbpochpaaDoor
open Go.RowKit

theorem run_copy_rows {P : Program} (w : World) (dT sT ty elem : TypeId) (g o dLen dCap : Nat) (a : Addr) (sLen sCap k : Nat) (cur : Array Value) (t : TypeId) (cs : List Value)
    (hu : P.underlying dT = some (.slice elem)) (hs : (P.info? elem).map (·.size) = some k)
    (hg : w.heap[g]? = some (.cells cur t (0, 0))) (hn : cs.length = Nat.min sLen dLen * k)
    (hsrc : ∀ j v, cs[j]? = some v → w.cell? (a.add j) = some v) (hfit : o + cs.length ≤ cur.size) (h1 : ∀ v ∈ cs, v.oneCell' = true) :
    (Builtin.copy_ #[dT, sT] ty #[.slice (some ⟨g, o, none⟩) dLen dCap, .slice (some a) sLen sCap]).run P w =
      .ok (goInt (Nat.min sLen dLen)) (w.setRow g (cur.toList.take o ++ cs ++ cur.toList.drop (o + cs.length)).toArray) := by
  have hl := run_loadCells_list (P := P) w a cs hsrc
  have hst := run_storeCells_at P g o t cs 0 cur w hg (by simpa using hfit) h1
  cases hq : P.info? elem with
  | none => simp [hq] at hs
  | some i =>
    have hi : i.size = k := by simpa [hq] using hs
    simp [Builtin.copy_, run_underlying hu, Builtin.lenOf, Builtin.firstCells, sizeOf, typeInfo, hq, hi, ← hn, hl, hst]

theorem run_copy_empty {P : Program} (w : World) (dT sT ty elem : TypeId) (d a : Option Addr) (dLen dCap sCap k : Nat) (hu : P.underlying dT = some (.slice elem)) (hs : (P.info? elem).map (·.size) = some k) :
    (Builtin.copy_ #[dT, sT] ty #[.slice d dLen dCap, .slice a 0 sCap]).run P w = .ok (goInt 0) w := by
  cases hq : P.info? elem with
  | none => simp [hq] at hs
  | some i =>
    have hl : ∀ (x : Addr), (loadCells x 0).run P w = .ok #[] w := fun x => by simpa using run_loadCells_list (P := P) w x [] (by simp)
    cases d <;> cases a <;> simp [Builtin.copy_, run_underlying hu, Builtin.lenOf, Builtin.firstCells, sizeOf, typeInfo, hq, storeCells, hl]

/-- copy over the head of a row that the call itself made; the source nil, empty, or as long as cs says: the world behind it, by what is known of it. -/
theorem copy_rows {P : Program} {w : World} (dT sT elem : TypeId) (k : Nat) (hu : P.underlying dT = some (.slice elem)) (hsz : (P.info? elem).map (·.size) = some k)
    (sp : Option Addr) (g dLen dCap sLen sCap : Nat) (hle : sLen ≤ dLen)
    (cur : Array Value) (t : TypeId) (hg : w.heap[g]? = some (.cells cur t (0, 0))) (cs : List Value) (hn : cs.length = sLen * k)
    (hpos : 0 < sLen → ∃ ad, sp = some ad ∧ ∀ j v, cs[j]? = some v → w.cell? (ad.add j) = some v)
    (hfit : cs.length ≤ cur.size) (h1 : ∀ v ∈ cs, v.oneCell' = true) (B : Nat) (w0 : World) (hb : Below B w0 w) (hBg : B ≤ g) :
    ∃ w', (∀ ty, (Builtin.copy_ #[dT, sT] ty #[.slice (some ⟨g, 0, none⟩) dLen dCap, .slice sp sLen sCap]).run P w = .ok (goInt sLen) w') ∧
      w'.heap[g]? = some (.cells (cs ++ cur.toList.drop cs.length).toArray t (0, 0)) ∧ Below B w0 w' := by
  by_cases h0 : sLen = 0
  · subst h0
    obtain rfl : cs = [] := List.eq_nil_of_length_eq_zero (by omega)
    exact ⟨w, fun ty => run_copy_empty (P := P) w dT sT ty elem (some ⟨g, 0, none⟩) sp dLen dCap sCap k hu hsz, by simpa using hg, hb⟩
  · obtain ⟨ad, rfl, hsrc⟩ := hpos (by omega)
    have hmin : Nat.min sLen dLen = sLen := Nat.min_eq_left hle
    refine ⟨w.setRow g (cur.toList.take 0 ++ cs ++ cur.toList.drop (0 + cs.length)).toArray, fun ty => ?_, ?_, below_setRow hb hBg _⟩
    · have hrun := run_copy_rows (P := P) w dT sT ty elem g 0 dLen dCap ad sLen sCap k cur t cs hu hsz hg (by rw [hmin]; exact hn) hsrc (by simpa using hfit) h1
      rw [hmin] at hrun
      exact hrun
    · have := setRow_heap w g cur (cur.toList.take 0 ++ cs ++ cur.toList.drop (0 + cs.length)).toArray t _ hg
      simpa using this

theorem keep_setRow (w : World) (g : Nat) (cs : Array Value) : Keep (fun k => k = g) w (w.setRow g cs) :=
  ⟨rfl, rfl, rfl, by simp [World.setRow], fun k _ hn => setRow_other w g k _ hn⟩
/-- The same, every other block as it was. -/
theorem copy_keep {P : Program} {w : World} (dT sT elem : TypeId) (k : Nat) (hu : P.underlying dT = some (.slice elem)) (hsz : (P.info? elem).map (·.size) = some k)
    (sp : Option Addr) (g dLen dCap sLen sCap : Nat) (hle : sLen ≤ dLen)
    (cur : Array Value) (t : TypeId) (hg : w.heap[g]? = some (.cells cur t (0, 0))) (cs : List Value) (hn : cs.length = sLen * k)
    (hpos : 0 < sLen → ∃ ad, sp = some ad ∧ ∀ j v, cs[j]? = some v → w.cell? (ad.add j) = some v)
    (hfit : cs.length ≤ cur.size) (h1 : ∀ v ∈ cs, v.oneCell' = true) :
    ∃ w', (∀ ty, (Builtin.copy_ #[dT, sT] ty #[.slice (some ⟨g, 0, none⟩) dLen dCap, .slice sp sLen sCap]).run P w = .ok (goInt sLen) w') ∧
      w'.heap[g]? = some (.cells (cs ++ cur.toList.drop cs.length).toArray t (0, 0)) ∧ Keep (fun k => k = g) w w' := by
  by_cases h0 : sLen = 0
  · subst h0
    obtain rfl : cs = [] := List.eq_nil_of_length_eq_zero (by omega)
    exact ⟨w, fun ty => run_copy_empty (P := P) w dT sT ty elem (some ⟨g, 0, none⟩) sp dLen dCap sCap k hu hsz, by simpa using hg, Keep.refl _ _⟩
  · obtain ⟨ad, rfl, hsrc⟩ := hpos (by omega)
    have hmin : Nat.min sLen dLen = sLen := Nat.min_eq_left hle
    refine ⟨w.setRow g (cur.toList.take 0 ++ cs ++ cur.toList.drop (0 + cs.length)).toArray, fun ty => ?_, ?_, keep_setRow _ _ _⟩
    · have hrun := run_copy_rows (P := P) w dT sT ty elem g 0 dLen dCap ad sLen sCap k cur t cs hu hsz hg (by rw [hmin]; exact hn) hsrc (by simpa using hfit) h1
      rw [hmin] at hrun
      exact hrun
    · have := setRow_heap w g cur (cur.toList.take 0 ++ cs ++ cur.toList.drop (0 + cs.length)).toArray t _ hg
      simpa using this
end Go.Proofs.YtoepcplbpochpaaDoor

/-
  The document's own run in memory: the moment, the result so far, and the lists that the run owns.
-/
namespace Go.Proofs.YtoepcplbpochpaaDoor
open Go.RowKit

/-- The document's run: its moment (of the state s), its result's block Q, the outputs, what was seen, the places. -/
structure RunInv (w : World) (M G H R V Q : Nat) (s : St) (outs : List Int) (stops : List Sn) (k : Nat) (vo vs vp : Value) (m : Nat) : Prop where
  mom : MomB w M G H R V s
  r0 : w.cell? ⟨Q, 0, none⟩ = some (.int .i64 2)
  r1 : w.cell? ⟨Q, 1, none⟩ = some (.int .i64 0)
  r2 : w.cell? ⟨Q, 2, none⟩ = some (.int .i64 (k : Int))
  r3 : w.cell? ⟨Q, 3, none⟩ = some vo
  r4 : w.cell? ⟨Q, 4, none⟩ = some vs
  rf : ∀ o, w.frozen? ⟨Q, o, none⟩ = false
  oo : w.ownsRow (Q + 1) 3 1 vo outs.length (intCells outs)
  os : w.ownsRow (Q + 1) 63 5 vs stops.length (snCells stops)
  pl : ∃ np xs, w.ownsRow (Q + 1) 3 1 vp np xs ∧ np ≤ m
  ap : ∀ g, vo.ownBlock = some g → vp.ownBlock ≠ some g
  lm : M < Q
  lg : G < Q
  lh : H < Q
section
variable {w w' w2 wz w3 : World} {M G H R V Q : Nat} {s s' : St} {outs : List Int} {stops : List Sn} {k m : Nat} {vo vs vp : Value}
theorem RunInv.iq (h : RunInv w M G H R V Q s outs stops k vo vs vp m) : Q < w.heap.size := World.block_lt_of_cell? w ⟨Q, 0, none⟩ h.r0
theorem RunInv.no (h : RunInv w M G H R V Q s outs stops k vo vs vp m) : ∀ g, vo.ownBlock = some g → Q + 1 ≤ g ∧ g < w.heap.size := own_in h.oo
theorem RunInv.ns (h : RunInv w M G H R V Q s outs stops k vo vs vp m) : ∀ g, vs.ownBlock = some g → Q + 1 ≤ g ∧ g < w.heap.size := own_in h.os
theorem RunInv.np (h : RunInv w M G H R V Q s outs stops k vo vs vp m) : ∀ g, vp.ownBlock = some g → Q + 1 ≤ g ∧ g < w.heap.size := h.pl.elim (fun _ h => h.elim (fun _ h => own_in h.1))

/-- Where the moment, the result and the three lists lie in blocks that are kept. -/
theorem RunInv.keep {S : Nat → Prop} (h : RunInv w M G H R V Q s outs stops k vo vs vp m) (hk : Keep S w w') (hQ : ∀ i, i ≤ Q → ¬ S i) (ho : ∀ g, vo.ownBlock = some g → ¬ S g) (hs : ∀ g, vs.ownBlock = some g → ¬ S g) (hp : ∀ g, vp.ownBlock = some g → ¬ S g) :
    RunInv w' M G H R V Q s outs stops k vo vs vp m := by
  have hb := hk.block Q h.iq (hQ Q (Nat.le_refl _))
  obtain ⟨np, xs, hp1, hp2⟩ := h.pl
  exact ⟨h.mom.keep hk (hQ M (Nat.le_of_lt h.lm)) (hQ G (Nat.le_of_lt h.lg)) (hQ H (Nat.le_of_lt h.lh)), (World.cell?_of_block hb).trans h.r0, (World.cell?_of_block hb).trans h.r1, (World.cell?_of_block hb).trans h.r2, (World.cell?_of_block hb).trans h.r3, (World.cell?_of_block hb).trans h.r4, fun o => (World.frozen?_of_block hb).trans (h.rf o), own_keep h.oo hk ho, own_keep h.os hk hs, ⟨np, xs, own_keep hp1 hk hp, hp2⟩, h.ap, h.lm, h.lg, h.lh⟩
theorem RunInv.grow (h : RunInv w M G H R V Q s outs stops k vo vs vp m) (hk : Keep (fun _ => False) w w') : RunInv w' M G H R V Q s outs stops k vo vs vp m :=
  h.keep hk (fun _ _ h => h) (fun _ _ h => h) (fun _ _ h => h) (fun _ _ h => h)
/-- A cell of the result is written. -/
theorem keep_q (w : World) (Q o : Nat) (u : Value) : Keep (fun i => i = Q) w (w.setCell ⟨Q, o, none⟩ u) := Keep.setCell (S := fun i => i = Q) (Keep.refl _ _) (p := ⟨Q, o, none⟩) rfl u

/-- An output joins. -/
theorem RunInv.out {y : Int} {g cap : Nat} {B : Nat} (h : RunInv w2 M G H R V Q s outs stops k vo vs vp m) (hz : Keep (fun _ => False) w2 wz) (hg : wz.grownBy w3 vo.ownBlock) (hB : w2.heap.size ≤ B)
    (hown : w3.ownsRow (Q + 1) 3 1 (.slice (some ⟨g, 0, none⟩) (outs.length + 1) cap) (outs.length + 1) (intCells outs ++ [.int .i64 y])) (hat : vo.ownBlock = some g ∨ g = B) :
    RunInv (w3.setCell ⟨Q, 3, none⟩ (.slice (some ⟨g, 0, none⟩) (outs.length + 1) cap)) M G H R V Q s (outs ++ [y]) stops k (.slice (some ⟨g, 0, none⟩) (outs.length + 1) cap) vs vp m := by
  have hk3 : Keep (fun i => some i = vo.ownBlock) w2 w3 := (hz.mono (fun _ _ h => h.elim)).grown hg (fun i e _ => e.symm)
  have hq : ∀ i, i ≤ Q → ¬ some i = vo.ownBlock := fun i hi e => by have := (h.no i e.symm).1; omega
  have hkq := keep_q w3 Q 3 (.slice (some ⟨g, 0, none⟩) (outs.length + 1) cap)
  have hb := hk3.block Q h.iq (hq Q (Nat.le_refl _))
  have c : ∀ {o : Nat} {u : Value}, w2.cell? ⟨Q, o, none⟩ = some u → w3.cell? ⟨Q, o, none⟩ = some u := fun hc => (World.cell?_of_block hb).trans hc
  obtain ⟨np, xs, hp1, hp2⟩ := h.pl
  have hs3 := own_keep h.os hk3 (fun g hg e => own_apart h.os h.oo (by decide) g hg e.symm)
  have hp3 := own_keep hp1 hk3 (fun g hg e => h.ap g e.symm hg)
  have hm3 := h.mom.keep hk3 (hq M (Nat.le_of_lt h.lm)) (hq G (Nat.le_of_lt h.lg)) (hq H (Nat.le_of_lt h.lh))
  have far : ∀ i, Q + 1 ≤ i → ¬ i = Q := fun i hi e => by omega
  refine ⟨hm3.keep hkq (by have := h.lm; omega) (by have := h.lg; omega) (by have := h.lh; omega), cell_set (c h.r0) (by omega), cell_set (c h.r1) (by omega), cell_set (c h.r2) (by omega), cell_put (c h.r3), cell_set (c h.r4) (by omega), frozen_set (fun o => (World.frozen?_of_block hb).trans (h.rf o)), ?_, own_keep hs3 hkq (fun g hg => far g (own_in hs3 g hg).1), ⟨np, xs, own_keep hp3 hkq (fun g hg => far g (own_in hp3 g hg).1), hp2⟩, ?_, h.lm, h.lg, h.lh⟩
  · rw [List.length_append, intCells_snoc]
    exact own_keep hown hkq (fun g hg => far g (own_in hown g hg).1)
  · intro i hi e
    have hig : i = g := by injection hi with hi; exact hi.symm
    subst hig
    rcases hat with hat | hat
    · exact h.ap i hat e
    · have := (h.np i e).2; omega
/-- What is seen joins. -/
theorem RunInv.see {x : Sn} {g cap : Nat} (h : RunInv w2 M G H R V Q s outs stops k vo vs vp m) (hz : Keep (fun _ => False) w2 wz) (hg : wz.grownBy w3 vs.ownBlock)
    (hown : w3.ownsRow (Q + 1) 63 5 (.slice (some ⟨g, 0, none⟩) (stops.length + 1) cap) (stops.length + 1) (snCells stops ++ x.cells)) :
    RunInv (w3.setCell ⟨Q, 4, none⟩ (.slice (some ⟨g, 0, none⟩) (stops.length + 1) cap)) M G H R V Q s outs (stops ++ [x]) k vo (.slice (some ⟨g, 0, none⟩) (stops.length + 1) cap) vp m := by
  obtain ⟨np, xs, hp1, hp2⟩ := h.pl
  have hk3 : Keep (fun i => some i = vs.ownBlock) w2 w3 := (hz.mono (fun _ _ h => h.elim)).grown hg (fun i e _ => e.symm)
  have hq : ∀ i, i ≤ Q → ¬ some i = vs.ownBlock := fun i hi e => by have := (h.ns i e.symm).1; omega
  have hkq := keep_q w3 Q 4 (.slice (some ⟨g, 0, none⟩) (stops.length + 1) cap)
  have hb := hk3.block Q h.iq (hq Q (Nat.le_refl _))
  have c : ∀ {o : Nat} {u : Value}, w2.cell? ⟨Q, o, none⟩ = some u → w3.cell? ⟨Q, o, none⟩ = some u := fun hc => (World.cell?_of_block hb).trans hc
  have ho3 := own_keep h.oo hk3 (fun g hg e => own_apart h.oo h.os (by decide) g hg e.symm)
  have hp3 := own_keep hp1 hk3 (fun g hg e => own_apart hp1 h.os (by decide) g hg e.symm)
  have hm3 := h.mom.keep hk3 (hq M (Nat.le_of_lt h.lm)) (hq G (Nat.le_of_lt h.lg)) (hq H (Nat.le_of_lt h.lh))
  have far : ∀ i, Q + 1 ≤ i → ¬ i = Q := fun i hi e => by omega
  refine ⟨hm3.keep hkq (by have := h.lm; omega) (by have := h.lg; omega) (by have := h.lh; omega), cell_set (c h.r0) (by omega), cell_set (c h.r1) (by omega), cell_set (c h.r2) (by omega), cell_set (c h.r3) (by omega), cell_put (c h.r4), frozen_set (fun o => (World.frozen?_of_block hb).trans (h.rf o)), own_keep ho3 hkq (fun g hg => far g (own_in ho3 g hg).1), ?_, ⟨np, xs, own_keep hp3 hkq (fun g hg => far g (own_in hp3 g hg).1), hp2⟩, h.ap, h.lm, h.lg, h.lh⟩
  rw [List.length_append, snCells_snoc]
  exact own_keep hown hkq (fun g hg => far g (own_in hown g hg).1)
/-- A place joins. -/
theorem RunInv.place {y : Value} {np : Nat} {xs : List Value} {g cap B : Nat} (h : RunInv w2 M G H R V Q s outs stops k vo vs vp m) (hz : Keep (fun _ => False) w2 wz) (hg : wz.grownBy w3 vp.ownBlock) (hB : w2.heap.size ≤ B) (hnp : np ≤ m)
    (hown : w3.ownsRow (Q + 1) 3 1 (.slice (some ⟨g, 0, none⟩) (np + 1) cap) (np + 1) (xs ++ [y])) (hat : vp.ownBlock = some g ∨ g = B) :
    RunInv w3 M G H R V Q s outs stops k vo vs (.slice (some ⟨g, 0, none⟩) (np + 1) cap) (m + 1) := by
  have hk3 : Keep (fun i => some i = vp.ownBlock) w2 w3 := (hz.mono (fun _ _ h => h.elim)).grown hg (fun i e _ => e.symm)
  have hq : ∀ i, i ≤ Q → ¬ some i = vp.ownBlock := fun i hi e => by have := (h.np i e.symm).1; omega
  obtain ⟨np', xs', hp1, _⟩ := h.pl
  have hb := hk3.block Q h.iq (hq Q (Nat.le_refl _))
  have c : ∀ {o : Nat} {u : Value}, w2.cell? ⟨Q, o, none⟩ = some u → w3.cell? ⟨Q, o, none⟩ = some u := fun hc => (World.cell?_of_block hb).trans hc
  have ho3 := own_keep h.oo hk3 (fun g hg e => h.ap g hg e.symm)
  have hs3 := own_keep h.os hk3 (fun g hg e => own_apart h.os hp1 (by decide) g hg e.symm)
  have hm3 := h.mom.keep hk3 (hq M (Nat.le_of_lt h.lm)) (hq G (Nat.le_of_lt h.lg)) (hq H (Nat.le_of_lt h.lh))
  refine ⟨hm3, c h.r0, c h.r1, c h.r2, c h.r3, c h.r4, fun o => (World.frozen?_of_block hb).trans (h.rf o), ho3, hs3, ⟨_, _, hown, by omega⟩, ?_, h.lm, h.lg, h.lh⟩
  intro i hi e
  have hig : g = i := by injection e
  subst hig
  rcases hat with hat | hat
  · exact h.ap g hi hat
  · have := (h.no g hi).2; omega
/-- The moment has passed an instruction. -/
theorem RunInv.pass (h : RunInv w M G H R V Q s outs stops k vo vs vp m) (hm : MomB w' M G H R V s') (hk : Keep (Mine M G H) w w') : RunInv w' M G H R V Q s' outs stops k vo vs vp m := by
  have hlm := h.lm
  have hlg := h.lg
  have hlh := h.lh
  have hn : ∀ i, Q ≤ i → ¬ Mine M G H i := fun i hi e => by rcases e with e | e | e <;> omega
  have hb := hk.block Q h.iq (hn Q (Nat.le_refl _))
  obtain ⟨np, xs, hp1, hp2⟩ := h.pl
  exact ⟨hm, (World.cell?_of_block hb).trans h.r0, (World.cell?_of_block hb).trans h.r1, (World.cell?_of_block hb).trans h.r2, (World.cell?_of_block hb).trans h.r3, (World.cell?_of_block hb).trans h.r4, fun o => (World.frozen?_of_block hb).trans (h.rf o), own_keep h.oo hk (fun g hg => hn g (by have := (h.no g hg).1; omega)), own_keep h.os hk (fun g hg => hn g (by have := (h.ns g hg).1; omega)), ⟨np, xs, own_keep hp1 hk (fun g hg => hn g (by have := (h.np g hg).1; omega)), hp2⟩, h.ap, h.lm, h.lg, h.lh⟩
/-- The steps are counted. -/
theorem RunInv.count (h : RunInv w M G H R V Q s outs stops k vo vs vp m) (j : Nat) {z : Int} (hz : z = (j : Int)) : RunInv (w.setCell ⟨Q, 2, none⟩ (.int .i64 z)) M G H R V Q s outs stops j vo vs vp m := by
  rw [hz]
  have hkq := keep_q w Q 2 (.int .i64 (j : Int))
  obtain ⟨np, xs, hp1, hp2⟩ := h.pl
  have far : ∀ i, Q + 1 ≤ i → ¬ i = Q := fun i hi e => by omega
  exact ⟨h.mom.keep hkq (by have := h.lm; omega) (by have := h.lg; omega) (by have := h.lh; omega), cell_set h.r0 (by omega), cell_set h.r1 (by omega), cell_put h.r2, cell_set h.r3 (by omega), cell_set h.r4 (by omega), frozen_set h.rf, own_keep h.oo hkq (fun g hg => far g (h.no g hg).1), own_keep h.os hkq (fun g hg => far g (h.ns g hg).1), ⟨np, xs, own_keep hp1 hkq (fun g hg => far g (h.np g hg).1), hp2⟩, h.ap, h.lm, h.lg, h.lh⟩
theorem RunInv.mono {m' : Nat} (h : RunInv w M G H R V Q s outs stops k vo vs vp m) (hm : m ≤ m') : RunInv w M G H R V Q s outs stops k vo vs vp m' := by
  obtain ⟨np, xs, hp1, hp2⟩ := h.pl
  exact ⟨h.mom, h.r0, h.r1, h.r2, h.r3, h.r4, h.rf, h.oo, h.os, ⟨np, xs, hp1, by omega⟩, h.ap, h.lm, h.lg, h.lh⟩
end
end Go.Proofs.YtoepcplbpochpaaDoor
