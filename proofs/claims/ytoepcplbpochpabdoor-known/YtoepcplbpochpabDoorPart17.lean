/-
  The built-in copy between two slices whose elements take several cells each; the making of a slice and the filling of it.
-/
import Derived.Test.YtoepcplbpochpabDoorPart4
import Derived.Laws.CopyOwn
import Derived.Test.YtoepcplbpochpabDoorPart11
import Derived.Deep.RegionHeld3
import Derived.Handy
import Derived.Test.YtoepcplbpochpabDoorPart7
import Derived.Test.YtoepcplbpochpabDoorPart15
import Derived.Test.YtoepcplbpochpabDoorPart16

namespace Go.Proofs.YtoepcplbpochpabDoor
open Go.RowKit

theorem run_copy_rows {P : Program} (w : World) (dT sT ty elem : TypeId) (g o dLen dCap : Nat) (a : Addr) (sLen sCap k : Nat) (cur : Array Value) (t : TypeId) (cs : List Value)
    (hu : P.underlying dT = some (.slice elem)) (hs : (P.info? elem).map (·.size) = some k)
    (hg : w.heap[g]? = some (.cells cur t (0, 0))) (hn : cs.length = Nat.min sLen dLen * k)
    (hsrc : ∀ j v, cs[j]? = some v → w.cell? (a.add j) = some v) (hfit : o + cs.length ≤ cur.size) (h1 : ∀ v ∈ cs, v.oneCell' = true) :
    (Builtin.copy_ #[dT, sT] ty #[.slice (some ⟨g, o, none⟩) dLen dCap, .slice (some a) sLen sCap]).run P w =
      .ok (goInt (Nat.min sLen dLen)) (w.setRow g (cur.toList.take o ++ cs ++ cur.toList.drop (o + cs.length)).toArray) := by
  have hl := run_loadCells_list (P := P) w a cs hsrc
  have hst := run_storeCells_at P g o t cs 0 cur w hg (by simpa using hfit) h1
  cases hq : P.info? elem with
  | none => simp [hq] at hs
  | some i =>
    have hi : i.size = k := by simpa [hq] using hs
    simp [Builtin.copy_, run_underlying hu, Builtin.lenOf, Builtin.firstCells, sizeOf, typeInfo, hq, hi, ← hn, hl, hst]

theorem run_copy_empty {P : Program} (w : World) (dT sT ty elem : TypeId) (d a : Option Addr) (dLen dCap sCap k : Nat) (hu : P.underlying dT = some (.slice elem)) (hs : (P.info? elem).map (·.size) = some k) :
    (Builtin.copy_ #[dT, sT] ty #[.slice d dLen dCap, .slice a 0 sCap]).run P w = .ok (goInt 0) w := by
  cases hq : P.info? elem with
  | none => simp [hq] at hs
  | some i =>
    have hl : ∀ (x : Addr), (loadCells x 0).run P w = .ok #[] w := fun x => by simpa using run_loadCells_list (P := P) w x [] (by simp)
    cases d <;> cases a <;> simp [Builtin.copy_, run_underlying hu, Builtin.lenOf, Builtin.firstCells, sizeOf, typeInfo, hq, storeCells, hl]

/-- copy over the head of a row that the call itself made; the source nil, empty, or as long as cs says: the world behind it, by what is known of it. -/
theorem copy_rows {P : Program} {w : World} (dT sT elem : TypeId) (k : Nat) (hu : P.underlying dT = some (.slice elem)) (hsz : (P.info? elem).map (·.size) = some k)
    (sp : Option Addr) (g dLen dCap sLen sCap : Nat) (hle : sLen ≤ dLen)
    (cur : Array Value) (t : TypeId) (hg : w.heap[g]? = some (.cells cur t (0, 0))) (cs : List Value) (hn : cs.length = sLen * k)
    (hpos : 0 < sLen → ∃ ad, sp = some ad ∧ ∀ j v, cs[j]? = some v → w.cell? (ad.add j) = some v)
    (hfit : cs.length ≤ cur.size) (h1 : ∀ v ∈ cs, v.oneCell' = true) (B : Nat) (w0 : World) (hb : Below B w0 w) (hBg : B ≤ g) :
    ∃ w', (∀ ty, (Builtin.copy_ #[dT, sT] ty #[.slice (some ⟨g, 0, none⟩) dLen dCap, .slice sp sLen sCap]).run P w = .ok (goInt sLen) w') ∧
      w'.heap[g]? = some (.cells (cs ++ cur.toList.drop cs.length).toArray t (0, 0)) ∧ Below B w0 w' := by
  by_cases h0 : sLen = 0
  · subst h0
    obtain rfl : cs = [] := List.eq_nil_of_length_eq_zero (by omega)
    exact ⟨w, fun ty => run_copy_empty (P := P) w dT sT ty elem (some ⟨g, 0, none⟩) sp dLen dCap sCap k hu hsz, by simpa using hg, hb⟩
  · obtain ⟨ad, rfl, hsrc⟩ := hpos (by omega)
    have hmin : Nat.min sLen dLen = sLen := Nat.min_eq_left hle
    refine ⟨w.setRow g (cur.toList.take 0 ++ cs ++ cur.toList.drop (0 + cs.length)).toArray, fun ty => ?_, ?_, below_setRow hb hBg _⟩
    · have hrun := run_copy_rows (P := P) w dT sT ty elem g 0 dLen dCap ad sLen sCap k cur t cs hu hsz hg (by rw [hmin]; exact hn) hsrc (by simpa using hfit) h1
      rw [hmin] at hrun
      exact hrun
    · have := setRow_heap w g cur (cur.toList.take 0 ++ cs ++ cur.toList.drop (0 + cs.length)).toArray t _ hg
      simpa using this

theorem keep_setRow (w : World) (g : Nat) (cs : Array Value) : Keep (fun k => k = g) w (w.setRow g cs) :=
  ⟨rfl, rfl, rfl, by simp [World.setRow], fun k _ hn => setRow_other w g k _ hn⟩
/-- The same, every other block as it was. -/
theorem copy_keep {P : Program} {w : World} (dT sT elem : TypeId) (k : Nat) (hu : P.underlying dT = some (.slice elem)) (hsz : (P.info? elem).map (·.size) = some k)
    (sp : Option Addr) (g dLen dCap sLen sCap : Nat) (hle : sLen ≤ dLen)
    (cur : Array Value) (t : TypeId) (hg : w.heap[g]? = some (.cells cur t (0, 0))) (cs : List Value) (hn : cs.length = sLen * k)
    (hpos : 0 < sLen → ∃ ad, sp = some ad ∧ ∀ j v, cs[j]? = some v → w.cell? (ad.add j) = some v)
    (hfit : cs.length ≤ cur.size) (h1 : ∀ v ∈ cs, v.oneCell' = true) :
    ∃ w', (∀ ty, (Builtin.copy_ #[dT, sT] ty #[.slice (some ⟨g, 0, none⟩) dLen dCap, .slice sp sLen sCap]).run P w = .ok (goInt sLen) w') ∧
      w'.heap[g]? = some (.cells (cs ++ cur.toList.drop cs.length).toArray t (0, 0)) ∧ Keep (fun k => k = g) w w' := by
  by_cases h0 : sLen = 0
  · subst h0
    obtain rfl : cs = [] := List.eq_nil_of_length_eq_zero (by omega)
    exact ⟨w, fun ty => run_copy_empty (P := P) w dT sT ty elem (some ⟨g, 0, none⟩) sp dLen dCap sCap k hu hsz, by simpa using hg, Keep.refl _ _⟩
  · obtain ⟨ad, rfl, hsrc⟩ := hpos (by omega)
    have hmin : Nat.min sLen dLen = sLen := Nat.min_eq_left hle
    refine ⟨w.setRow g (cur.toList.take 0 ++ cs ++ cur.toList.drop (0 + cs.length)).toArray, fun ty => ?_, ?_, keep_setRow _ _ _⟩
    · have hrun := run_copy_rows (P := P) w dT sT ty elem g 0 dLen dCap ad sLen sCap k cur t cs hu hsz hg (by rw [hmin]; exact hn) hsrc (by simpa using hfit) h1
      rw [hmin] at hrun
      exact hrun
    · have := setRow_heap w g cur (cur.toList.take 0 ++ cs ++ cur.toList.drop (0 + cs.length)).toArray t _ hg
      simpa using this
end Go.Proofs.YtoepcplbpochpabDoor

/-
  The document's own run: what an instruction makes of a moment: (*lodgeref.Moment).pass.
-/
namespace Go.Proofs.YtoepcplbpochpabDoor
open Go.RowKit

def endI (s : St) : Int := if s.on then -1 else s.kind
/-- A moment in memory: its block, the registers' and the variables'. -/
structure MomB (w : World) (M G H R V : Nat) (s : St) : Prop where
  at_ : w.cell? ⟨M, 0, none⟩ = some (.int .i64 (s.at_ : Int))
  rg : w.cell? ⟨M, 1, none⟩ = some (.slice (some ⟨G, 0, none⟩) R R)
  vr : w.cell? ⟨M, s.env.vc, none⟩ = some (.slice (some ⟨H, 0, none⟩) V V)
  en : w.cell? ⟨M, 4, none⟩ = some (.int .i64 (endI s))
  vl : w.cell? ⟨M, 5, none⟩ = some (.int .i64 s.val)
  regs : ∀ i, i < R → w.cell? ⟨G, i, none⟩ = some (.int .i64 (s.regs i))
  vars : ∀ i, i < V → w.cell? ⟨H, i, none⟩ = some (.int .i64 (s.vars i))
  fm : ∀ o, w.frozen? ⟨M, o, none⟩ = false
  fg : ∀ o, w.frozen? ⟨G, o, none⟩ = false
  fh : ∀ o, w.frozen? ⟨H, o, none⟩ = false
  ig : G < w.heap.size
  ih : H < w.heap.size
  mg : M ≠ G
  mh : M ≠ H
  gh : G ≠ H
  hc : s.env.vc = 2 ∨ s.env.vc = 3
theorem MomB.im {w : World} {M G H R V : Nat} {s : St} (h : MomB w M G H R V s) : M < w.heap.size := World.block_lt_of_cell? w ⟨M, 0, none⟩ h.at_
theorem MomB.of_block {w w' : World} {M G H R V : Nat} {s : St} (h : MomB w M G H R V s) (hm : w'.heap[M]? = w.heap[M]?) (hg : w'.heap[G]? = w.heap[G]?) (hh : w'.heap[H]? = w.heap[H]?) (hz : w.heap.size ≤ w'.heap.size) : MomB w' M G H R V s :=
  ⟨(World.cell?_of_block hm).trans h.at_, (World.cell?_of_block hm).trans h.rg, (World.cell?_of_block hm).trans h.vr, (World.cell?_of_block hm).trans h.en, (World.cell?_of_block hm).trans h.vl,
   fun i hi => (World.cell?_of_block hg).trans (h.regs i hi), fun i hi => (World.cell?_of_block hh).trans (h.vars i hi),
   fun o => (World.frozen?_of_block hm).trans (h.fm o), fun o => (World.frozen?_of_block hg).trans (h.fg o), fun o => (World.frozen?_of_block hh).trans (h.fh o), Nat.lt_of_lt_of_le h.ig hz, Nat.lt_of_lt_of_le h.ih hz, h.mg, h.mh, h.gh, h.hc⟩
theorem MomB.drew {w : World} {M G H R V : Nat} {s : St} (h : MomB w M G H R V s) : MomB w.drew M G H R V s := h.of_block rfl rfl rfl (Nat.le_refl _)
theorem MomB.keep {S : Nat → Prop} {w w' : World} {M G H R V : Nat} {s : St} (h : MomB w M G H R V s) (hk : Keep S w w') (hm : ¬ S M) (hg : ¬ S G) (hh : ¬ S H) : MomB w' M G H R V s :=
  h.of_block (hk.block M h.im hm) (hk.block G h.ig hg) (hk.block H h.ih hh) hk.size
theorem MomB.same {w : World} {M G H R V : Nat} {s s' : St} (h : MomB w M G H R V s) (h1 : s'.at_ = s.at_) (h2 : s'.regs = s.regs) (h3 : s'.vars = s.vars) (h4 : endI s' = endI s) (h5 : s'.val = s.val) (h6 : s'.env = s.env := by rfl) : MomB w M G H R V s' :=
  ⟨by rw [h1]; exact h.at_, h.rg, by rw [h6]; exact h.vr, by rw [h4]; exact h.en, by rw [h5]; exact h.vl, by rw [h2]; exact h.regs, by rw [h3]; exact h.vars, h.fm, h.fg, h.fh, h.ig, h.ih, h.mg, h.mh, h.gh, by rw [h6]; exact h.hc⟩

theorem cell_far {w : World} {A B i o : Nat} {v u : Value} (h : w.cell? ⟨A, o, none⟩ = some u) (hne : A ≠ B) : (w.setCell ⟨B, i, none⟩ v).cell? ⟨A, o, none⟩ = some u := by
  rw [World.cell?_setCell_other _ _ _ _ (fun e => hne (by injection e with e1; exact e1.symm))]; exact h
theorem frozen_far {w : World} {A B i : Nat} {v : Value} (h : ∀ o, w.frozen? ⟨A, o, none⟩ = false) : ∀ o, (w.setCell ⟨B, i, none⟩ v).frozen? ⟨A, o, none⟩ = false := fun o => by
  rw [World.frozen?_setCell]; exact h o

theorem MomB.set_reg {w : World} {M G H R V : Nat} {s : St} (h : MomB w M G H R V s) (d : Nat) (hd : d < R) (v : Int) : MomB (w.setCell ⟨G, d, none⟩ (.int .i64 v)) M G H R V (s.reg d v) := by
  refine ⟨cell_far h.at_ h.mg, cell_far h.rg h.mg, cell_far h.vr h.mg, cell_far h.en h.mg, cell_far h.vl h.mg, fun i hi => ?_, fun i hi => cell_far (h.vars i hi) h.gh.symm, frozen_far h.fm, frozen_far h.fg, frozen_far h.fh, by simp; exact h.ig, by simp; exact h.ih, h.mg, h.mh, h.gh, h.hc⟩
  by_cases hid : i = d
  · subst hid; rw [cell_put (h.regs i hi)]; show _ = some (Value.int .i64 (upd s.regs i v i)); rw [upd_same]
  · rw [cell_set (h.regs i hi) hid]; show _ = some (Value.int .i64 (upd s.regs d v i)); rw [upd_other _ _ hid]
theorem MomB.set_var {w : World} {M G H R V : Nat} {s : St} (h : MomB w M G H R V s) (d : Nat) (hd : d < V) (v : Int) : MomB (w.setCell ⟨H, d, none⟩ (.int .i64 v)) M G H R V (s.var d v) := by
  refine ⟨cell_far h.at_ h.mh, cell_far h.rg h.mh, cell_far h.vr h.mh, cell_far h.en h.mh, cell_far h.vl h.mh, fun i hi => cell_far (h.regs i hi) h.gh, fun i hi => ?_, frozen_far h.fm, frozen_far h.fg, frozen_far h.fh, by simp; exact h.ig, by simp; exact h.ih, h.mg, h.mh, h.gh, h.hc⟩
  by_cases hid : i = d
  · subst hid; rw [cell_put (h.vars i hi)]; show _ = some (Value.int .i64 (upd s.vars i v i)); rw [upd_same]
  · rw [cell_set (h.vars i hi) hid]; show _ = some (Value.int .i64 (upd s.vars d v i)); rw [upd_other _ _ hid]
theorem MomB.set_at {w : World} {M G H R V : Nat} {s : St} (h : MomB w M G H R V s) (p : Nat) {z : Int} (hz : z = (p : Int)) : MomB (w.setCell ⟨M, 0, none⟩ (.int .i64 z)) M G H R V (s.goto p) := by
  rw [hz]
  exact ⟨cell_put h.at_, cell_set h.rg (by omega), cell_set h.vr (show s.env.vc ≠ 0 by have := h.hc; omega), cell_set h.en (by omega), cell_set h.vl (by omega), fun i hi => cell_far (h.regs i hi) h.mg.symm, fun i hi => cell_far (h.vars i hi) h.mh.symm, frozen_far h.fm, frozen_far h.fg, frozen_far h.fh, by simp; exact h.ig, by simp; exact h.ih, h.mg, h.mh, h.gh, h.hc⟩
theorem MomB.set_end {w : World} {M G H R V : Nat} {s : St} (h : MomB w M G H R V s) (k : Int) : MomB (w.setCell ⟨M, 4, none⟩ (.int .i64 k)) M G H R V (s.ended k s.val) :=
  ⟨cell_set h.at_ (by omega), cell_set h.rg (by omega), cell_set h.vr (show s.env.vc ≠ 4 by have := h.hc; omega), cell_put h.en, cell_set h.vl (by omega), fun i hi => cell_far (h.regs i hi) h.mg.symm, fun i hi => cell_far (h.vars i hi) h.mh.symm, frozen_far h.fm, frozen_far h.fg, frozen_far h.fh, by simp; exact h.ig, by simp; exact h.ih, h.mg, h.mh, h.gh, h.hc⟩
theorem MomB.set_val {w : World} {M G H R V : Nat} {s : St} (h : MomB w M G H R V s) (v : Int) : MomB (w.setCell ⟨M, 5, none⟩ (.int .i64 v)) M G H R V { s with val := v } :=
  ⟨cell_set h.at_ (by omega), cell_set h.rg (by omega), cell_set h.vr (show s.env.vc ≠ 5 by have := h.hc; omega), cell_set h.en (by omega), cell_put h.vl, fun i hi => cell_far (h.regs i hi) h.mg.symm, fun i hi => cell_far (h.vars i hi) h.mh.symm, frozen_far h.fm, frozen_far h.fg, frozen_far h.fh, by simp; exact h.ig, by simp; exact h.ih, h.mg, h.mh, h.gh, h.hc⟩

/-- The three blocks of a moment. -/
def Mine (M G H : Nat) : Nat → Prop := fun k => k = M ∨ k = G ∨ k = H
theorem keep_m {M G H : Nat} {a w : World} (h : Keep (Mine M G H) a w) (o : Nat) (u : Value) : Keep (Mine M G H) a (w.setCell ⟨M, o, none⟩ u) := Keep.setCell (S := Mine M G H) h (p := ⟨M, o, none⟩) (.inl rfl) u
theorem keep_g {M G H : Nat} {a w : World} (h : Keep (Mine M G H) a w) (o : Nat) (u : Value) : Keep (Mine M G H) a (w.setCell ⟨G, o, none⟩ u) := Keep.setCell (S := Mine M G H) h (p := ⟨G, o, none⟩) (.inr (.inl rfl)) u
theorem keep_h {M G H : Nat} {a w : World} (h : Keep (Mine M G H) a w) (o : Nat) (u : Value) : Keep (Mine M G H) a (w.setCell ⟨H, o, none⟩ u) := Keep.setCell (S := Mine M G H) h (p := ⟨H, o, none⟩) (.inr (.inr rfl)) u

/-- What a step leaves of a moment. -/
def PassPost (w : World) (M G H R V : Nat) (s' : St) (e : Ending) (w' : World) : Prop :=
  e = .returned (.tuple #[]) ∧ MomB w' M G H R V s' ∧ Keep (Mine M G H) w w'
theorem PassPost.drew {w w' : World} {M G H R V : Nat} {s : St} {e : Ending} (h : PassPost w M G H R V s e w') : PassPost w M G H R V s e w'.drew := ⟨h.1, h.2.1.drew, h.2.2.drew⟩

/-- The world in which the instruction's own work begins. -/
def passW (w : World) (M : Nat) (s : St) (op d a b : Int) : World :=
  (w.setCell ⟨M, 0, none⟩ (.int .i64 ((s.at_ : Int) + 1))).alloc (.cells #[.int .i64 op, .int .i64 d, .int .i64 a, .int .i64 b] 31)
theorem pass_open {w : World} {M G H R V : Nat} {s : St} (op d a b : Int) (h : MomB w M G H R V s) :
    ∃ w2, w2 = passW w M s op d a b ∧ Hid (MomB w2 M G H R V s.next) ∧ Hid (Keep (Mine M G H) w w2) ∧
      w2.cell? ⟨w.heap.size, 0, none⟩ = some (.int .i64 op) ∧ w2.cell? ⟨w.heap.size, 1, none⟩ = some (.int .i64 d) ∧ w2.cell? ⟨w.heap.size, 2, none⟩ = some (.int .i64 a) ∧ w2.cell? ⟨w.heap.size, 3, none⟩ = some (.int .i64 b) := by
  have hk : Keep (Mine M G H) w (passW w M s op d a b) := (keep_m (Keep.refl _ _) _ _).alloc _
  have hsz : (w.setCell ⟨M, 0, none⟩ (.int .i64 ((s.at_ : Int) + 1))).heap.size = w.heap.size := by simp
  have h1 := h.set_at (s.at_ + 1) (z := (s.at_ : Int) + 1) (by omega)
  have h2 : MomB (passW w M s op d a b) M G H R V (s.goto (s.at_ + 1)) := h1.of_block (Below.heap_alloc _ _ _ (by rw [hsz]; exact h.im)) (Below.heap_alloc _ _ _ (by rw [hsz]; exact h.ig)) (Below.heap_alloc _ _ _ (by rw [hsz]; exact h.ih)) (by unfold passW; simp)
  have q : ∀ i, (passW w M s op d a b).cell? ⟨w.heap.size, i, none⟩ = #[Value.int .i64 op, .int .i64 d, .int .i64 a, .int .i64 b][i]? := fun i => World.cell?_alloc_at (hn := hsz.symm) ..
  exact ⟨_, rfl, h2.same rfl rfl rfl rfl rfl, hk, (q 0).trans rfl, (q 1).trans rfl, (q 2).trans rfl, (q 3).trans rfl⟩
end Go.Proofs.YtoepcplbpochpabDoor

/-
  The document's own run in memory: the moment, the result so far, and the lists that the run owns.
-/
namespace Go.Proofs.YtoepcplbpochpabDoor
open Go.RowKit

/-- The document's run: its moment (of the state s), its result's block Q, the outputs, what was seen, the places. -/
structure RunInv (w : World) (M G H R V Q : Nat) (s : St) (outs : List Int) (stops : List Sn) (k : Nat) (vo vs vp : Value) (m : Nat) : Prop where
  mom : MomB w M G H R V s
  r0 : w.cell? ⟨Q, 0, none⟩ = some (.int .i64 2)
  r1 : w.cell? ⟨Q, 1, none⟩ = some (.int .i64 0)
  r2 : w.cell? ⟨Q, 2, none⟩ = some (.int .i64 (k : Int))
  r3 : w.cell? ⟨Q, 3, none⟩ = some vo
  r4 : w.cell? ⟨Q, 4, none⟩ = some vs
  rf : ∀ o, w.frozen? ⟨Q, o, none⟩ = false
  oo : w.ownsRow (Q + 1) 3 1 vo outs.length (intCells outs)
  os : w.ownsRow (Q + 1) 57 5 vs stops.length (snCells stops)
  pl : ∃ np xs, w.ownsRow (Q + 1) 3 1 vp np xs ∧ np ≤ m
  ap : ∀ g, vo.ownBlock = some g → vp.ownBlock ≠ some g
  lm : M < Q
  lg : G < Q
  lh : H < Q
section
variable {w w' w2 wz w3 : World} {M G H R V Q : Nat} {s s' : St} {outs : List Int} {stops : List Sn} {k m : Nat} {vo vs vp : Value}
theorem RunInv.iq (h : RunInv w M G H R V Q s outs stops k vo vs vp m) : Q < w.heap.size := World.block_lt_of_cell? w ⟨Q, 0, none⟩ h.r0
theorem RunInv.no (h : RunInv w M G H R V Q s outs stops k vo vs vp m) : ∀ g, vo.ownBlock = some g → Q + 1 ≤ g ∧ g < w.heap.size := own_in h.oo
theorem RunInv.ns (h : RunInv w M G H R V Q s outs stops k vo vs vp m) : ∀ g, vs.ownBlock = some g → Q + 1 ≤ g ∧ g < w.heap.size := own_in h.os
theorem RunInv.np (h : RunInv w M G H R V Q s outs stops k vo vs vp m) : ∀ g, vp.ownBlock = some g → Q + 1 ≤ g ∧ g < w.heap.size := h.pl.elim (fun _ h => h.elim (fun _ h => own_in h.1))

/-- Where the moment, the result and the three lists lie in blocks that are kept. -/
theorem RunInv.keep {S : Nat → Prop} (h : RunInv w M G H R V Q s outs stops k vo vs vp m) (hk : Keep S w w') (hQ : ∀ i, i ≤ Q → ¬ S i) (ho : ∀ g, vo.ownBlock = some g → ¬ S g) (hs : ∀ g, vs.ownBlock = some g → ¬ S g) (hp : ∀ g, vp.ownBlock = some g → ¬ S g) :
    RunInv w' M G H R V Q s outs stops k vo vs vp m := by
  have hb := hk.block Q h.iq (hQ Q (Nat.le_refl _))
  obtain ⟨np, xs, hp1, hp2⟩ := h.pl
  exact ⟨h.mom.keep hk (hQ M (Nat.le_of_lt h.lm)) (hQ G (Nat.le_of_lt h.lg)) (hQ H (Nat.le_of_lt h.lh)), (World.cell?_of_block hb).trans h.r0, (World.cell?_of_block hb).trans h.r1, (World.cell?_of_block hb).trans h.r2, (World.cell?_of_block hb).trans h.r3, (World.cell?_of_block hb).trans h.r4, fun o => (World.frozen?_of_block hb).trans (h.rf o), own_keep h.oo hk ho, own_keep h.os hk hs, ⟨np, xs, own_keep hp1 hk hp, hp2⟩, h.ap, h.lm, h.lg, h.lh⟩
theorem RunInv.grow (h : RunInv w M G H R V Q s outs stops k vo vs vp m) (hk : Keep (fun _ => False) w w') : RunInv w' M G H R V Q s outs stops k vo vs vp m :=
  h.keep hk (fun _ _ h => h) (fun _ _ h => h) (fun _ _ h => h) (fun _ _ h => h)
/-- A cell of the result is written. -/
theorem keep_q (w : World) (Q o : Nat) (u : Value) : Keep (fun i => i = Q) w (w.setCell ⟨Q, o, none⟩ u) := Keep.setCell (S := fun i => i = Q) (Keep.refl _ _) (p := ⟨Q, o, none⟩) rfl u

/-- An output joins. -/
theorem RunInv.out {y : Int} {g cap : Nat} {B : Nat} (h : RunInv w2 M G H R V Q s outs stops k vo vs vp m) (hz : Keep (fun _ => False) w2 wz) (hg : wz.grownBy w3 vo.ownBlock) (hB : w2.heap.size ≤ B)
    (hown : w3.ownsRow (Q + 1) 3 1 (.slice (some ⟨g, 0, none⟩) (outs.length + 1) cap) (outs.length + 1) (intCells outs ++ [.int .i64 y])) (hat : vo.ownBlock = some g ∨ g = B) :
    RunInv (w3.setCell ⟨Q, 3, none⟩ (.slice (some ⟨g, 0, none⟩) (outs.length + 1) cap)) M G H R V Q s (outs ++ [y]) stops k (.slice (some ⟨g, 0, none⟩) (outs.length + 1) cap) vs vp m := by
  have hk3 : Keep (fun i => some i = vo.ownBlock) w2 w3 := (hz.mono (fun _ _ h => h.elim)).grown hg (fun i e _ => e.symm)
  have hq : ∀ i, i ≤ Q → ¬ some i = vo.ownBlock := fun i hi e => by have := (h.no i e.symm).1; omega
  have hkq := keep_q w3 Q 3 (.slice (some ⟨g, 0, none⟩) (outs.length + 1) cap)
  have hb := hk3.block Q h.iq (hq Q (Nat.le_refl _))
  have c : ∀ {o : Nat} {u : Value}, w2.cell? ⟨Q, o, none⟩ = some u → w3.cell? ⟨Q, o, none⟩ = some u := fun hc => (World.cell?_of_block hb).trans hc
  obtain ⟨np, xs, hp1, hp2⟩ := h.pl
  have hs3 := own_keep h.os hk3 (fun g hg e => own_apart h.os h.oo (by decide) g hg e.symm)
  have hp3 := own_keep hp1 hk3 (fun g hg e => h.ap g e.symm hg)
  have hm3 := h.mom.keep hk3 (hq M (Nat.le_of_lt h.lm)) (hq G (Nat.le_of_lt h.lg)) (hq H (Nat.le_of_lt h.lh))
  have far : ∀ i, Q + 1 ≤ i → ¬ i = Q := fun i hi e => by omega
  refine ⟨hm3.keep hkq (by have := h.lm; omega) (by have := h.lg; omega) (by have := h.lh; omega), cell_set (c h.r0) (by omega), cell_set (c h.r1) (by omega), cell_set (c h.r2) (by omega), cell_put (c h.r3), cell_set (c h.r4) (by omega), frozen_set (fun o => (World.frozen?_of_block hb).trans (h.rf o)), ?_, own_keep hs3 hkq (fun g hg => far g (own_in hs3 g hg).1), ⟨np, xs, own_keep hp3 hkq (fun g hg => far g (own_in hp3 g hg).1), hp2⟩, ?_, h.lm, h.lg, h.lh⟩
  · rw [List.length_append, intCells_snoc]
    exact own_keep hown hkq (fun g hg => far g (own_in hown g hg).1)
  · intro i hi e
    have hig : i = g := by injection hi with hi; exact hi.symm
    subst hig
    rcases hat with hat | hat
    · exact h.ap i hat e
    · have := (h.np i e).2; omega
/-- What is seen joins. -/
theorem RunInv.see {x : Sn} {g cap : Nat} (h : RunInv w2 M G H R V Q s outs stops k vo vs vp m) (hz : Keep (fun _ => False) w2 wz) (hg : wz.grownBy w3 vs.ownBlock)
    (hown : w3.ownsRow (Q + 1) 57 5 (.slice (some ⟨g, 0, none⟩) (stops.length + 1) cap) (stops.length + 1) (snCells stops ++ x.cells)) :
    RunInv (w3.setCell ⟨Q, 4, none⟩ (.slice (some ⟨g, 0, none⟩) (stops.length + 1) cap)) M G H R V Q s outs (stops ++ [x]) k vo (.slice (some ⟨g, 0, none⟩) (stops.length + 1) cap) vp m := by
  obtain ⟨np, xs, hp1, hp2⟩ := h.pl
  have hk3 : Keep (fun i => some i = vs.ownBlock) w2 w3 := (hz.mono (fun _ _ h => h.elim)).grown hg (fun i e _ => e.symm)
  have hq : ∀ i, i ≤ Q → ¬ some i = vs.ownBlock := fun i hi e => by have := (h.ns i e.symm).1; omega
  have hkq := keep_q w3 Q 4 (.slice (some ⟨g, 0, none⟩) (stops.length + 1) cap)
  have hb := hk3.block Q h.iq (hq Q (Nat.le_refl _))
  have c : ∀ {o : Nat} {u : Value}, w2.cell? ⟨Q, o, none⟩ = some u → w3.cell? ⟨Q, o, none⟩ = some u := fun hc => (World.cell?_of_block hb).trans hc
  have ho3 := own_keep h.oo hk3 (fun g hg e => own_apart h.oo h.os (by decide) g hg e.symm)
  have hp3 := own_keep hp1 hk3 (fun g hg e => own_apart hp1 h.os (by decide) g hg e.symm)
  have hm3 := h.mom.keep hk3 (hq M (Nat.le_of_lt h.lm)) (hq G (Nat.le_of_lt h.lg)) (hq H (Nat.le_of_lt h.lh))
  have far : ∀ i, Q + 1 ≤ i → ¬ i = Q := fun i hi e => by omega
  refine ⟨hm3.keep hkq (by have := h.lm; omega) (by have := h.lg; omega) (by have := h.lh; omega), cell_set (c h.r0) (by omega), cell_set (c h.r1) (by omega), cell_set (c h.r2) (by omega), cell_set (c h.r3) (by omega), cell_put (c h.r4), frozen_set (fun o => (World.frozen?_of_block hb).trans (h.rf o)), own_keep ho3 hkq (fun g hg => far g (own_in ho3 g hg).1), ?_, ⟨np, xs, own_keep hp3 hkq (fun g hg => far g (own_in hp3 g hg).1), hp2⟩, h.ap, h.lm, h.lg, h.lh⟩
  rw [List.length_append, snCells_snoc]
  exact own_keep hown hkq (fun g hg => far g (own_in hown g hg).1)
/-- A place joins. -/
theorem RunInv.place {y : Value} {np : Nat} {xs : List Value} {g cap B : Nat} (h : RunInv w2 M G H R V Q s outs stops k vo vs vp m) (hz : Keep (fun _ => False) w2 wz) (hg : wz.grownBy w3 vp.ownBlock) (hB : w2.heap.size ≤ B) (hnp : np ≤ m)
    (hown : w3.ownsRow (Q + 1) 3 1 (.slice (some ⟨g, 0, none⟩) (np + 1) cap) (np + 1) (xs ++ [y])) (hat : vp.ownBlock = some g ∨ g = B) :
    RunInv w3 M G H R V Q s outs stops k vo vs (.slice (some ⟨g, 0, none⟩) (np + 1) cap) (m + 1) := by
  have hk3 : Keep (fun i => some i = vp.ownBlock) w2 w3 := (hz.mono (fun _ _ h => h.elim)).grown hg (fun i e _ => e.symm)
  have hq : ∀ i, i ≤ Q → ¬ some i = vp.ownBlock := fun i hi e => by have := (h.np i e.symm).1; omega
  obtain ⟨np', xs', hp1, _⟩ := h.pl
  have hb := hk3.block Q h.iq (hq Q (Nat.le_refl _))
  have c : ∀ {o : Nat} {u : Value}, w2.cell? ⟨Q, o, none⟩ = some u → w3.cell? ⟨Q, o, none⟩ = some u := fun hc => (World.cell?_of_block hb).trans hc
  have ho3 := own_keep h.oo hk3 (fun g hg e => h.ap g hg e.symm)
  have hs3 := own_keep h.os hk3 (fun g hg e => own_apart h.os hp1 (by decide) g hg e.symm)
  have hm3 := h.mom.keep hk3 (hq M (Nat.le_of_lt h.lm)) (hq G (Nat.le_of_lt h.lg)) (hq H (Nat.le_of_lt h.lh))
  refine ⟨hm3, c h.r0, c h.r1, c h.r2, c h.r3, c h.r4, fun o => (World.frozen?_of_block hb).trans (h.rf o), ho3, hs3, ⟨_, _, hown, by omega⟩, ?_, h.lm, h.lg, h.lh⟩
  intro i hi e
  have hig : g = i := by injection e
  subst hig
  rcases hat with hat | hat
  · exact h.ap g hi hat
  · have := (h.no g hi).2; omega
/-- The moment has passed an instruction. -/
theorem RunInv.pass (h : RunInv w M G H R V Q s outs stops k vo vs vp m) (hm : MomB w' M G H R V s') (hk : Keep (Mine M G H) w w') : RunInv w' M G H R V Q s' outs stops k vo vs vp m := by
  have hlm := h.lm
  have hlg := h.lg
  have hlh := h.lh
  have hn : ∀ i, Q ≤ i → ¬ Mine M G H i := fun i hi e => by rcases e with e | e | e <;> omega
  have hb := hk.block Q h.iq (hn Q (Nat.le_refl _))
  obtain ⟨np, xs, hp1, hp2⟩ := h.pl
  exact ⟨hm, (World.cell?_of_block hb).trans h.r0, (World.cell?_of_block hb).trans h.r1, (World.cell?_of_block hb).trans h.r2, (World.cell?_of_block hb).trans h.r3, (World.cell?_of_block hb).trans h.r4, fun o => (World.frozen?_of_block hb).trans (h.rf o), own_keep h.oo hk (fun g hg => hn g (by have := (h.no g hg).1; omega)), own_keep h.os hk (fun g hg => hn g (by have := (h.ns g hg).1; omega)), ⟨np, xs, own_keep hp1 hk (fun g hg => hn g (by have := (h.np g hg).1; omega)), hp2⟩, h.ap, h.lm, h.lg, h.lh⟩
/-- The steps are counted. -/
theorem RunInv.count (h : RunInv w M G H R V Q s outs stops k vo vs vp m) (j : Nat) {z : Int} (hz : z = (j : Int)) : RunInv (w.setCell ⟨Q, 2, none⟩ (.int .i64 z)) M G H R V Q s outs stops j vo vs vp m := by
  rw [hz]
  have hkq := keep_q w Q 2 (.int .i64 (j : Int))
  obtain ⟨np, xs, hp1, hp2⟩ := h.pl
  have far : ∀ i, Q + 1 ≤ i → ¬ i = Q := fun i hi e => by omega
  exact ⟨h.mom.keep hkq (by have := h.lm; omega) (by have := h.lg; omega) (by have := h.lh; omega), cell_set h.r0 (by omega), cell_set h.r1 (by omega), cell_put h.r2, cell_set h.r3 (by omega), cell_set h.r4 (by omega), frozen_set h.rf, own_keep h.oo hkq (fun g hg => far g (h.no g hg).1), own_keep h.os hkq (fun g hg => far g (h.ns g hg).1), ⟨np, xs, own_keep hp1 hkq (fun g hg => far g (h.np g hg).1), hp2⟩, h.ap, h.lm, h.lg, h.lh⟩
theorem RunInv.mono {m' : Nat} (h : RunInv w M G H R V Q s outs stops k vo vs vp m) (hm : m ≤ m') : RunInv w M G H R V Q s outs stops k vo vs vp m' := by
  obtain ⟨np, xs, hp1, hp2⟩ := h.pl
  exact ⟨h.mom, h.r0, h.r1, h.r2, h.r3, h.r4, h.rf, h.oo, h.os, ⟨np, xs, hp1, by omega⟩, h.ap, h.lm, h.lg, h.lh⟩
end
end Go.Proofs.YtoepcplbpochpabDoor

/-
  A run's mathematics once more: what a step makes of the end, the outputs and what was seen; numbers that are copied.
-/
namespace Go.Proofs.YtoepcplbpochpabDoor
open Go.RowKit

theorem pre_kind (x : In4) (s : St) : (preSt x s).kind = s.kind := by
  unfold preSt
  repeat' split
  all_goals rfl
theorem step_kind (x : In4) (s : St) (h : 0 ≤ s.kind) : 0 ≤ (stepSt x s).kind := by
  have h' : 0 ≤ (preSt x s).kind := by rw [pre_kind]; exact h
  unfold stepSt doSt
  repeat' split
  all_goals first | exact h' | (show (0 : Int) ≤ 0; decide) | (unfold St.reckon; split; (show (0 : Int) ≤ 1; decide); exact h')
theorem step_outs9 (d a b : Int) (s : St) : (stepSt ⟨9, d, a, b⟩ s).outs = s.outs ++ [s.regs a.toNat] := rfl
theorem step_outs {op d a b : Int} {s : St} (h : op ≠ 9) : (stepSt ⟨op, d, a, b⟩ s).outs = s.outs := by
  have hp : (preSt ⟨op, d, a, b⟩ s).outs = s.outs := by
    unfold preSt
    repeat' split
    all_goals rfl
  rw [← hp]
  unfold stepSt doSt
  simp only
  repeat' split
  all_goals first | rfl | (exfalso; omega) | (exact reckon_outs _ _ _ _ _)
theorem step_stops11 (d a b : Int) (s : St) : (stepSt ⟨11, d, a, b⟩ s).stops = s.stops ++ [⟨a, s.tell 0, s.tell 1, s.tell 2, s.tell 3⟩] := rfl
theorem step_stops {op d a b : Int} {s : St} (h : op ≠ 11) : (stepSt ⟨op, d, a, b⟩ s).stops = s.stops := by
  have hp : (preSt ⟨op, d, a, b⟩ s).stops = s.stops := by
    unfold preSt
    simp only
    repeat' split
    all_goals first | rfl | (exfalso; omega)
  rw [← hp]
  unfold stepSt doSt
  simp only
  repeat' split
  all_goals first | rfl | (exact reckon_stops _ _ _ _ _)

theorem Tryd.size3 : (Tryd.prog.info? 3).map (·.size) = some 1 := by kernel_rfl
theorem held_ints {w : World} {ao : Option Addr} {xs : List Int} (h : HeldI w ao xs) : 0 < xs.length → ∃ ad, ao = some ad ∧ ∀ j v, (intCells xs)[j]? = some v → w.cell? (ad.add j) = some v := fun h0 => by
  rcases h with h | ⟨b, off, e, _, hc⟩
  · subst h; exact absurd h0 (by simp)
  · refine ⟨_, e, fun j v hv => ?_⟩
    have hj : j < xs.length := by
      rcases Nat.lt_or_ge j xs.length with h | h
      · exact h
      · rw [List.getElem?_eq_none (by rw [intCells_len]; exact h)] at hv; cases hv
    have hadd : (⟨b, off, none⟩ : Addr).add j = ⟨b, off + j, none⟩ := by unfold Addr.add; split <;> simp_all
    rw [hadd, hc j hj]
    unfold intCells at hv
    rw [List.getElem?_map, List.getElem?_eq_getElem hj] at hv
    unfold nth
    rw [List.getD_eq_getElem?_getD, List.getElem?_eq_getElem hj]
    exact hv
theorem copied_regs {xs : List Int} {cs : Array Value} {n : Nat} (hc : ∀ i, i < n → cs[i]? = some (.int .i64 0)) : ∀ i, i < n → (intCells xs ++ cs.toList.drop (intCells xs).length).toArray[i]? = some (.int .i64 (nth xs i)) := fun i hi => by
  rw [List.getElem?_toArray]
  rcases Nat.lt_or_ge i xs.length with h | h
  · rw [List.getElem?_append_left (by rw [intCells_len]; exact h)]
    unfold intCells nth
    rw [List.getElem?_map, List.getElem?_eq_getElem h, List.getD_eq_getElem?_getD, List.getElem?_eq_getElem h]
    rfl
  · rw [List.getElem?_append_right (by rw [intCells_len]; exact h), List.getElem?_drop, intCells_len, show xs.length + (i - xs.length) = i by omega, nth_past xs h, Array.getElem?_toList]
    exact hc i hi
end Go.Proofs.YtoepcplbpochpabDoor

/-
  Plain mathematics: where what comes of an instruction lies in the unit's code, and what a straight piece of code does.
-/
namespace Go.Proofs.YtoepcplbpochpabDoor
open Go.RowKit

theorem wTo_split (hs : Nat → Bool) (ha : Nat → Nat) (K : Nat) (s : Nat → Bool) (P : Nat) (L : List In4) (i : Nat) : ∀ d, ∃ T, wTo hs ha K s P L (i + d) = wTo hs ha K s P L i ++ T
  | 0 => ⟨[], (List.append_nil _).symm⟩
  | d + 1 => by
    obtain ⟨T, hT⟩ := wTo_split hs ha K s P L i d
    exact ⟨T ++ insC hs ha K (inAt L (i + d)), by show wTo hs ha K s P L (i + d) ++ _ = _; rw [hT, List.append_assoc]; rfl⟩
theorem inAt_left {A B : List In4} {i : Nat} (h : i < A.length) : inAt (A ++ B) i = inAt A i := by
  unfold inAt; rw [List.getD_eq_getElem?_getD, List.getD_eq_getElem?_getD, List.getElem?_append_left h]
theorem inAt_right (A B : List In4) (i : Nat) : inAt (A ++ B) (A.length + i) = inAt B i := by
  unfold inAt; rw [List.getD_eq_getElem?_getD, List.getD_eq_getElem?_getD, List.getElem?_append_right (by omega), show A.length + i - A.length = i by omega]
/-- What comes of the instruction i lies from its place on. -/
theorem code_at {P R K : Nat} {L : List In4} {i j : Nat} (hi : i < L.length) (hj : j < (insC (homS L R K) (homA L R K) K (inAt L i)).length) :
    inAt (cmpC P R K L) (cmpQ P R K L i + j) = tgt (cmpS P R K L) (inAt (insC (homS L R K) (homA L R K) K (inAt L i)) j) := by
  obtain ⟨T, hT⟩ := wTo_split (homS L R K) (homA L R K) K (liveB L 0) P L (i + 1) (L.length - (i + 1))
  rw [show i + 1 + (L.length - (i + 1)) = L.length by omega] at hT
  have e : wTo (homS L R K) (homA L R K) K (liveB L 0) P L L.length = wTo (homS L R K) (homA L R K) K (liveB L 0) P L i ++ (insC (homS L R K) (homA L R K) K (inAt L i) ++ T) := by
    rw [hT]; show (wTo (homS L R K) (homA L R K) K (liveB L 0) P L i ++ _) ++ T = _; rw [List.append_assoc]
  unfold cmpC codeB
  rw [inAt_map]
  · unfold cmpQ; rw [e, inAt_right, inAt_left hj]; rfl
  · unfold cmpQ; rw [e, List.length_append, List.length_append]; omega
/-- The args lie ahead of all. -/
theorem code_load {P R K : Nat} {L : List In4} {j : Nat} (hj : j < cmpQ P R K L 0) : inAt (cmpC P R K L) j = tgt (cmpS P R K L) (inAt (loadC (homS L R K) (homA L R K) (liveB L 0) P) j) := by
  obtain ⟨T, hT⟩ := wTo_split (homS L R K) (homA L R K) K (liveB L 0) P L 0 L.length
  rw [Nat.zero_add] at hT
  unfold cmpQ at hj
  unfold cmpC codeB
  rw [inAt_map]
  · rw [hT, inAt_left hj]; rfl
  · rw [hT, List.length_append]; omega

/-- A piece of code that goes straight on. -/
def exec : List In4 → St → St
  | [], t => t
  | y :: l, t => exec l (stepSt y t)
/-- An instruction that goes straight on. -/
def straight (y : In4) : Prop := y.op = 0 ∨ y.op = 1 ∨ y.op = 9 ∨ y.op = 11 ∨ y.op = 15 ∨ y.op = 16
theorem step_straight {y : In4} (h : straight y) (t : St) : (stepSt y t).on = t.on ∧ (stepSt y t).at_ = t.at_ + 1 := by
  obtain ⟨op, d, a, b⟩ := y
  unfold straight at h
  simp only at h
  rcases h with rfl | rfl | rfl | rfl | rfl | rfl <;> exact ⟨rfl, rfl⟩
/-- A piece of code whose instructions, but for the last, go straight on is done one by one. -/
theorem run_exec {C : List In4} : ∀ (l : List In4) (y : In4) (t : St), t.on = true → (∀ j, j < (l ++ [y]).length → inAt C (t.at_ + j) = inAt (l ++ [y]) j) → (∀ x ∈ l, straight x) → runSt C (l ++ [y]).length t = stepSt y (exec l t)
  | [], y, t, hon, hc, _ => by
    show runSt C 1 t = stepSt y t
    have := hc 0 (by simp)
    rw [Nat.add_zero] at this
    rw [run_on (by omega) hon, this]; rfl
  | x :: l, y, t, hon, hc, hs => by
    have h0 := hc 0 (by simp)
    rw [Nat.add_zero] at h0
    have h0' : inAt C t.at_ = x := h0
    obtain ⟨s1, s2⟩ := step_straight (hs x List.mem_cons_self) t
    rw [show (x :: l ++ [y]).length = (l ++ [y]).length + 1 by simp, run_on (by omega) hon, h0', Nat.add_sub_cancel]
    exact run_exec l y (stepSt x t) (s1.trans hon) (fun j hj => by
      have := hc (j + 1) (by simp at hj ⊢; omega)
      rw [s2, show t.at_ + 1 + j = t.at_ + (j + 1) by omega, this]; rfl) (fun z hz => hs z (List.mem_cons_of_mem _ hz))
theorem run_add (C : List In4) : ∀ (a b : Nat) (t : St), runSt C (a + b) t = runSt C b (runSt C a t)
  | 0, b, t => by rw [Nat.zero_add]; rfl
  | a + 1, b, t => by
    cases h : t.on with
    | false => rw [run_off C _ t h, run_off C _ t h, run_off C _ t h]
    | true => rw [run_on (by omega) h, run_on (m := a + 1) (by omega) h, show a + 1 + b - 1 = a + b by omega, show a + 1 - 1 = a by omega]; exact run_add C a b _
/-- More fuel: what has been shown stays, and what is to come is shown behind it. -/
theorem step_outs_pre (x : In4) (s : St) : ∃ o, (stepSt x s).outs = s.outs ++ o := by
  by_cases h : x.op = 9
  · obtain ⟨op, d, a, b⟩ := x
    simp only at h
    subst h
    exact ⟨_, step_outs9 d a b s⟩
  · obtain ⟨op, d, a, b⟩ := x
    exact ⟨[], by rw [step_outs h, List.append_nil]⟩
theorem step_stops_pre (x : In4) (s : St) : ∃ o, (stepSt x s).stops = s.stops ++ o := by
  by_cases h : x.op = 11
  · obtain ⟨op, d, a, b⟩ := x
    simp only at h
    subst h
    exact ⟨_, step_stops11 d a b s⟩
  · obtain ⟨op, d, a, b⟩ := x
    exact ⟨[], by rw [step_stops h, List.append_nil]⟩
theorem run_pre (C : List In4) : ∀ (m : Nat) (t : St), (∃ o, (runSt C m t).outs = t.outs ++ o) ∧ (∃ o, (runSt C m t).stops = t.stops ++ o)
  | 0, t => ⟨⟨[], (List.append_nil _).symm⟩, ⟨[], (List.append_nil _).symm⟩⟩
  | m + 1, t => by
    cases h : t.on with
    | false => rw [run_off C _ t h]; exact ⟨⟨[], (List.append_nil _).symm⟩, ⟨[], (List.append_nil _).symm⟩⟩
    | true =>
      rw [run_on (by omega) h, Nat.add_sub_cancel]
      obtain ⟨⟨o1, h1⟩, ⟨o2, h2⟩⟩ := run_pre C m (stepSt (inAt C t.at_) t)
      obtain ⟨o3, h3⟩ := step_outs_pre (inAt C t.at_) t
      obtain ⟨o4, h4⟩ := step_stops_pre (inAt C t.at_) t
      exact ⟨⟨o3 ++ o1, by rw [h1, h3, List.append_assoc]⟩, ⟨o4 ++ o2, by rw [h2, h4, List.append_assoc]⟩⟩
end Go.Proofs.YtoepcplbpochpabDoor

/-
  Plain mathematics: what the homes of the registers hold, and what fetching and keeping make of it.
-/
namespace Go.Proofs.YtoepcplbpochpabDoor
open Go.RowKit

/-- What the home of r holds. -/
def hv (hs : Nat → Bool) (ha : Nat → Nat) (t : St) (r : Nat) : Int := if hs r = true then t.vars (ha r) else t.regs (ha r)
/-- Homes that keep clear of the spare registers, if there are slots; a slot each. -/
structure Clear (hs : Nat → Bool) (ha : Nat → Nat) (R K : Nat) : Prop where
  k2 : 2 ≤ K
  spare : (∃ r, r < R ∧ hs r = true) → ∀ q, q < R → hs q = false → ha q + 2 < K
  slot : ∀ r, r < R → hs r = true → ha r = r
theorem clear_ok (L : List In4) (R K : Nat) (hK : 2 ≤ K) : Clear (homS L R K) (homA L R K) R K := by
  refine ⟨hK, ?_, fun r _ h => (hom_yes h).1⟩
  rintro ⟨r, hr, h⟩ q hq hq'
  have h1 := (hom_yes h).2.2
  have h2 := cnt_gt (colB L R) R r hr
  have h3 := hom_no hq hq'
  have hk : keptB L R K = K - 2 := by
    unfold keptB at h1 ⊢
    split
    · rfl
    · rename_i hn; rw [if_neg hn] at h1; omega
  omega
/-- Two homes are one. -/
def SameH (hs : Nat → Bool) (ha : Nat → Nat) (r q : Nat) : Prop := hs r = hs q ∧ ha r = ha q

/-- What a piece of code may change: the spare registers alone. -/
structure Calm (hs : Nat → Bool) (ha : Nat → Nat) (R : Nat) (t t' : St) (n : Nat) : Prop where
  hom : ∀ r, r < R → hv hs ha t' r = hv hs ha t r
  on : t'.on = t.on
  at_ : t'.at_ = t.at_ + n
  kind : t'.kind = t.kind
  val : t'.val = t.val
  steps : t'.steps = t.steps + n
  outs : t'.outs = t.outs
  stops : t'.stops = t.stops
  env : t'.env = t.env
  vars : t'.vars = t.vars
theorem Calm.refl (hs : Nat → Bool) (ha : Nat → Nat) (R : Nat) (t : St) : Calm hs ha R t t 0 := ⟨fun _ _ => rfl, rfl, rfl, rfl, rfl, rfl, rfl, rfl, rfl, rfl⟩
theorem Calm.trans {hs : Nat → Bool} {ha : Nat → Nat} {R : Nat} {t t1 t2 : St} {n m : Nat} (h : Calm hs ha R t t1 n) (h' : Calm hs ha R t1 t2 m) : Calm hs ha R t t2 (n + m) :=
  ⟨fun r hr => (h'.hom r hr).trans (h.hom r hr), h'.on.trans h.on, by rw [h'.at_, h.at_]; omega, h'.kind.trans h.kind, h'.val.trans h.val, by rw [h'.steps, h.steps]; omega, h'.outs.trans h.outs, h'.stops.trans h.stops, h'.env.trans h.env, h'.vars.trans h.vars⟩
theorem step_load (d a b : Int) (t : St) : stepSt ⟨15, d, a, b⟩ t = (t.reg d.toNat (t.vars a.toNat)).next := rfl
theorem step_store (d a b : Int) (t : St) : stepSt ⟨16, d, a, b⟩ t = (t.var d.toNat (t.regs a.toNat)).next := rfl
/-- Fetching: the register that it names holds what r's home holds; the homes stay; another spare register stays. -/
theorem fetch_calm {hs : Nat → Bool} {ha : Nat → Nat} {R K : Nat} (hc : Clear hs ha R K) {r n : Nat} (hr : r < R) (hn : n ≤ 1) (t : St) :
    Calm hs ha R t (exec (fetC hs ha K r n) t) (fetC hs ha K r n).length ∧ (exec (fetC hs ha K r n) t).regs (fetR hs ha K r n).toNat = hv hs ha t r ∧ (∀ y ∈ fetC hs ha K r n, straight y) ∧
    (∀ q, q ≠ K - 2 + n → (exec (fetC hs ha K r n) t).regs q = t.regs q) ∧ (hs r = false → exec (fetC hs ha K r n) t = t) := by
  have hk2 := hc.k2
  cases e : hs r with
  | false =>
    have e1 : fetC hs ha K r n = [] := by unfold fetC; rw [e, if_neg (by decide)]
    have e2 : fetR hs ha K r n = ha r := by unfold fetR; rw [e, if_neg (by decide)]
    rw [e1, e2]
    refine ⟨Calm.refl _ _ _ _, ?_, fun y hy => (by cases hy), fun _ _ => rfl, fun _ => rfl⟩
    show t.regs ((ha r : Int)).toNat = _
    unfold hv; rw [e, if_neg (by decide), Int.toNat_natCast]
  | true =>
    have e1 : fetC hs ha K r n = [⟨15, (K : Int) - 2 + n, ha r, 0⟩] := by unfold fetC; rw [e, if_pos rfl]
    have e2 : fetR hs ha K r n = (K : Int) - 2 + n := by unfold fetR; rw [e, if_pos rfl]
    rw [e1, e2]
    have hx : exec [⟨15, (K : Int) - 2 + n, ha r, 0⟩] t = (t.reg (K - 2 + n) (t.vars (ha r))).next := by
      show stepSt ⟨15, (K : Int) - 2 + n, ha r, 0⟩ t = _
      rw [step_load, show ((K : Int) - 2 + n).toNat = K - 2 + n by omega, Int.toNat_natCast]
    rw [hx]
    refine ⟨⟨fun q hq => ?_, rfl, rfl, rfl, rfl, rfl, rfl, rfl, rfl, rfl⟩, ?_, ?_, fun q hq => ?_, fun h => by cases h⟩
    · unfold hv
      cases eq : hs q with
      | true => rw [if_pos rfl, if_pos rfl]; rfl
      | false =>
        rw [if_neg (by decide), if_neg (by decide)]
        have := hc.spare ⟨r, hr, e⟩ q hq eq
        exact upd_other t.regs (t.vars (ha r)) (show ha q ≠ K - 2 + n by omega)
    · rw [show ((K : Int) - 2 + n).toNat = K - 2 + n by omega]
      show upd t.regs (K - 2 + n) _ (K - 2 + n) = _
      rw [upd_same]; unfold hv; rw [e, if_pos rfl]
    · intro y hy; rw [List.mem_singleton] at hy; subst hy; exact .inr (.inr (.inr (.inr (.inl rfl))))
    · exact upd_other t.regs (t.vars (ha r)) hq
end Go.Proofs.YtoepcplbpochpabDoor

/-
  Plain mathematics: what writing a register makes of the homes.
-/
namespace Go.Proofs.YtoepcplbpochpabDoor
open Go.RowKit

/-- The home of d holds v; other homes stay. -/
structure Wrote (hs : Nat → Bool) (ha : Nat → Nat) (R : Nat) (t t' : St) (n d : Nat) (v : Int) : Prop where
  new : hv hs ha t' d = v
  hom : ∀ r, r < R → ¬ SameH hs ha r d → hv hs ha t' r = hv hs ha t r
  on : t'.on = t.on
  at_ : t'.at_ = t.at_ + n
  kind : t'.kind = t.kind
  val : t'.val = t.val
  steps : t'.steps = t.steps + n
  outs : t'.outs = t.outs
  stops : t'.stops = t.stops
  env : t'.env = t.env
theorem Wrote.behind {hs : Nat → Bool} {ha : Nat → Nat} {R : Nat} {t t1 t2 : St} {n m d : Nat} {v : Int} (h : Calm hs ha R t t1 n) (h' : Wrote hs ha R t1 t2 m d v) : Wrote hs ha R t t2 (n + m) d v :=
  ⟨h'.new, fun r hr hs => (h'.hom r hr hs).trans (h.hom r hr), h'.on.trans h.on, by rw [h'.at_, h.at_]; omega, h'.kind.trans h.kind, h'.val.trans h.val, by rw [h'.steps, h.steps]; omega, h'.outs.trans h.outs, h'.stops.trans h.stops, h'.env.trans h.env⟩
/-- Writing to the goal of d and bringing it home. -/
theorem keep_wrote {hs : Nat → Bool} {ha : Nat → Nat} {R K : Nat} (hc : Clear hs ha R K) {d : Nat} (hd : d < R) (t : St) (v : Int) :
    Wrote hs ha R t (exec (keepC hs ha K d) (t.next.reg (goalR hs ha K d).toNat v)) (1 + (keepC hs ha K d).length) d v ∧ (∀ y ∈ keepC hs ha K d, straight y) := by
  have hk2 := hc.k2
  cases e : hs d with
  | false =>
    have e1 : keepC hs ha K d = [] := by unfold keepC; rw [e, if_neg (by decide)]
    have e2 : goalR hs ha K d = ha d := by unfold goalR; rw [e, if_neg (by decide)]
    rw [e1, e2, Int.toNat_natCast]
    refine ⟨⟨?_, fun r hr hn => ?_, rfl, rfl, rfl, rfl, rfl, rfl, rfl, rfl⟩, fun y hy => (by cases hy)⟩
    · unfold hv; rw [e, if_neg (by decide)]; exact upd_same _ _ _
    · unfold hv
      cases er : hs r with
      | true => rw [if_pos rfl, if_pos rfl]; rfl
      | false => rw [if_neg (by decide), if_neg (by decide)]; exact upd_other t.regs v (fun h => hn ⟨er.trans e.symm, h⟩)
  | true =>
    have e1 : keepC hs ha K d = [⟨16, ha d, (K : Int) - 2, 0⟩] := by unfold keepC; rw [e, if_pos rfl]
    have e2 : goalR hs ha K d = (K : Int) - 2 := by unfold goalR; rw [e, if_pos rfl]
    rw [e1, e2, show ((K : Int) - 2).toNat = K - 2 by omega]
    have hx : exec [⟨16, ha d, (K : Int) - 2, 0⟩] (t.next.reg (K - 2) v) = ((t.next.reg (K - 2) v).var (ha d) v).next := by
      show stepSt ⟨16, ha d, (K : Int) - 2, 0⟩ _ = _
      rw [step_store, show ((K : Int) - 2).toNat = K - 2 by omega, Int.toNat_natCast]
      rw [show (t.next.reg (K - 2) v).regs (K - 2) = v from upd_same _ _ _]
    rw [hx]
    refine ⟨⟨?_, fun r hr hn => ?_, rfl, rfl, rfl, rfl, rfl, rfl, rfl, rfl⟩, fun y hy => ?_⟩
    · unfold hv; rw [e, if_pos rfl]; exact upd_same _ _ _
    · unfold hv
      cases er : hs r with
      | true => rw [if_pos rfl, if_pos rfl]; exact upd_other t.vars v (fun h => hn ⟨er.trans e.symm, h⟩)
      | false =>
        rw [if_neg (by decide), if_neg (by decide)]
        have := hc.spare ⟨d, hd, e⟩ r hr er
        exact upd_other t.regs v (show ha r ≠ K - 2 by omega)
    · rw [List.mem_singleton] at hy; subst hy; exact .inr (.inr (.inr (.inr (.inr rfl))))
theorem exec_app : ∀ (a b : List In4) (t : St), exec (a ++ b) t = exec b (exec a t)
  | [], _, _ => rfl
  | y :: a, b, t => exec_app a b (stepSt y t)
theorem fetC_sec {hs : Nat → Bool} {ha : Nat → Nat} {R K : Nat} (hc : Clear hs ha R K) {a b : Nat} (ha' : a < R) (hb : b < R) (t : St) :
    Calm hs ha R t (exec (fetC hs ha K a 0 ++ fetC hs ha K b 1) t) ((fetC hs ha K a 0).length + (fetC hs ha K b 1).length) ∧ (exec (fetC hs ha K a 0 ++ fetC hs ha K b 1) t).regs (fetR hs ha K a 0).toNat = hv hs ha t a ∧
    (exec (fetC hs ha K a 0 ++ fetC hs ha K b 1) t).regs (fetR hs ha K b 1).toNat = hv hs ha t b := by
  have hk2 := hc.k2
  obtain ⟨c1, c2, _, _, _⟩ := fetch_calm hc (n := 0) ha' (by omega) t
  obtain ⟨d1, d2, _, d4, d5⟩ := fetch_calm hc (n := 1) hb (by omega) (exec (fetC hs ha K a 0) t)
  rw [exec_app]
  refine ⟨c1.trans d1, ?_, d2.trans (c1.hom b hb)⟩
  rw [← c2]
  cases eb : hs b with
  | false => rw [d5 eb]
  | true =>
    refine d4 _ ?_
    unfold fetR
    cases ea : hs a with
    | true => rw [if_pos rfl]; omega
    | false => rw [if_neg (by decide)]; have := hc.spare ⟨b, hb, eb⟩ a ha' ea; omega
/-- A Const. -/
theorem const_wrote {hs : Nat → Bool} {ha : Nat → Nat} {R K : Nat} (hc : Clear hs ha R K) {d : Nat} (hd : d < R) (c : Int) (t : St) :
    Wrote hs ha R t (exec ([⟨0, goalR hs ha K d, c, 0⟩] ++ keepC hs ha K d) t) ([(⟨0, goalR hs ha K d, c, 0⟩ : In4)] ++ keepC hs ha K d).length d c := by
  rw [exec_app, List.length_append]
  exact (keep_wrote hc hd t c).1
end Go.Proofs.YtoepcplbpochpabDoor
