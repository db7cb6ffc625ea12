/-
  What the document's own check of a unit (lodgeref.CheckUnit) answers: the error and the place.
-/
import Derived.Test.YtoepcplbpochpaaDoorUnit13
import Derived.Test.YtoepcplbpochpaaDoorUnit27
import Derived.Test.YtoepcplbpochpaaDoorUnit28
import Derived.Test.YtoepcplbpochpaaDoorUnit3
import Derived.Deep.RegionHeld3
import Derived.Handy

namespace Go.Proofs.YtoepcplbpochpaaDoor
open Go.RowKit

set_option maxRecDepth 100000 in
set_option maxHeartbeats 4000000 in
theorem checkUnit_good (K S P V : Int) (L : List In4) (T : ByteArray) (ao : Option Addr) (cap : Nat) (w : World) (hH : HeldIns w ao L) (hs : T.size ≤ maxLen) (hu : ¬ UnitBad K S P V L.length) :
    Calls Tryd.prog 14 #[.agg #[.int .i64 K, .int .i64 S, .int .i64 P, .int .i64 V, .slice ao L.length cap, .string T]] w fun e w' =>
      e = .returned (.tuple #[.int .i64 (unitE K S P V L T).1, .int .i64 (unitE K S P V L T).2]) ∧ Below w.heap.size w w' := by
  have he := hide (unitE_good (T := T) hu)
  obtain ⟨g1, g2, g3, g4, g5, g6, g7, g8, g9, g10, g11⟩ := unit_good hu
  obtain ⟨b, off, rfl, hb, hL⟩ : ∃ b off, ao = some ⟨b, off, none⟩ ∧ b < w.heap.size ∧ LieI w b off L := by
    rcases hH with h | h
    · subst h; exact absurd g10 (by simp)
    · exact h
  have KT := hide (fun w => tabled_any K S P V L.length T (some ⟨b, off, none⟩) cap w hs)
  have KC := hide (fun w g (hL : LieI w b off L) (hb : b < w.heap.size) (hg : w.heap[g]? = some (.cells (opsA false) 4 (0, 0))) => coded_any false L b off cap g K 0 S w hL hb hg (by omega) (by omega))
  obtain ⟨e1, he1⟩ : ∃ e, e = (codedE false L K 0 S).1 := ⟨_, rfl⟩
  obtain ⟨e2, he2⟩ : ∃ e, e = (codedE false L K 0 S).2 := ⟨_, rfl⟩
  obtain ⟨tb, htb⟩ : ∃ b, b = tabB T K S V L.length := ⟨_, rfl⟩
  have he' := hide (show unitE K S P V L T = if e1 ≠ 0 then (e1, e2) else if tb = true then (0, 0) else (10, 0) by rw [unhide he, he1, he2, htb])
  rw [← he1, ← he2] at KC
  rw [← htb] at KT
  have HL := hide hL
  clear hu hH hL hs he he1 he2 htb
  go_enter Tryd.func14, Tryd.ntmps14
  go_wp2_with fail
  obtain ⟨w1, hw1, h6, HB1, hz⟩ := unit_open w K S P V (.slice (some ⟨b, off, none⟩) L.length cap) T
  rw [← hw1]
  have H6 := hide h6
  have p0 := h6.1
  have p1 := h6.2.1
  have p4 := h6.2.2.2.2.1
  clear hw1 h6
  go_region_held3 (fun w' => w'.cell? ⟨w.heap.size, 0, none⟩ = some (.int .i64 K) ∧ w'.cell? ⟨w.heap.size, 1, none⟩ = some (.int .i64 S) ∧ w'.cell? ⟨w.heap.size, 4, none⟩ = some (.slice (some ⟨b, off, none⟩) L.length cap)) (simp [*])
    (first
      | (go_at_call 44; refine (ops_any false _).mono ?_; rintro e w2 ⟨rfl, hw2⟩; have hb2 : Below w1.heap.size w1.drew w2 := (by rw [hw2]; exact (Below.refl w1.heap.size w1.drew).alloc (Nat.le_refl _) _); have hs2 : w1.heap.size ≤ w2.heap.size := hb2.size; have hg2 : w2.heap[w1.heap.size]? = some (.cells (opsA false) 4 (0, 0)) := (by rw [hw2]; exact Array.getElem?_push_size); have q0 := (hb2.cell (p := ⟨w.heap.size, 0, none⟩) hz).trans p0; have q1 := (hb2.cell (p := ⟨w.heap.size, 1, none⟩) hz).trans p1; have q4 := (hb2.cell (p := ⟨w.heap.size, 4, none⟩) hz).trans p4; have HB2 : Hid (Below w.heap.size w w2) := hide (((unhide HB1).drew).trans (hb2.mono (Nat.le_of_lt hz))); have HG2 := hide hg2; have HBX := hide ((Below.refl w1.heap.size w1).drew.trans hb2); clear hw2 hb2 hg2)
      | (go_at_call 43; refine (unhide KC _ w1.heap.size ?_ ?_ ?_).mono ?_; exact (unhide HL).below (unhide HB2) hb; exact Nat.lt_of_lt_of_le hb (unhide HB2).size; exact unhide HG2; rintro e w3 ⟨rfl, hb3⟩; have HB3 : Hid (Below w.heap.size w w3) := hide ((unhide HB2).trans (hb3.mono (unhide HB2).size)); have hz3 : w.heap.size < w2.heap.size := Nat.lt_of_lt_of_le hz hs2; have r0 := (hb3.cell (p := ⟨w.heap.size, 0, none⟩) hz3).trans q0; have r1 := (hb3.cell (p := ⟨w.heap.size, 1, none⟩) hz3).trans q1; have r4 := (hb3.cell (p := ⟨w.heap.size, 4, none⟩) hz3).trans q4; have HBY := hide ((unhide HBX).trans (hb3.mono hs2)); clear hb3))
  all_goals
    have h62 := (unhide H6).below (unhide HBY) hz
    obtain ⟨_, _, t2, t3, _, t5⟩ := h62
    have hz4 : w.heap.size < w3.heap.size := Nat.lt_of_lt_of_le hz (unhide HBY).size
    clear HBX HBY HB1 HB2 HG2 H6 HL q0 q1 q4 p0 p1 p4
    by_cases h1 : e1 = 0
    case neg =>
      have h1' : (e1 != 0) = true := by rw [bne_iff_ne]; exact h1
      have he2 := hide (show unitE K S P V L T = (e1, e2) by rw [unhide he', if_pos h1])
      go_wp2_with fail
      go_ret2
      exact ⟨ret2 (by rw [unhide he2]) (by rw [unhide he2]), unhide HB3⟩
    subst h1
    go_wp2_with fail
    refine (unhide KT w3).mono ?_
    rintro e w4 ⟨rfl, hb4⟩
    have HB4 : Hid (Below w.heap.size w w4) := hide ((unhide HB3).trans (hb4.mono (Nat.le_of_lt hz4)))
    clear hb4
    cases tb
    · have he2 := hide (show unitE K S P V L T = (10, 0) by rw [unhide he', if_neg (fun h => h rfl), if_neg (by decide)])
      go_wp2_with fail
      go_ret2
      exact ⟨ret2 (by rw [unhide he2]) (by rw [unhide he2]), unhide HB4⟩
    · have he2 := hide (show unitE K S P V L T = (0, 0) by rw [unhide he', if_neg (fun h => h rfl), if_pos rfl])
      go_wp2_with fail
      go_ret2
      exact ⟨ret2 (by rw [unhide he2]) (by rw [unhide he2]), unhide HB4⟩

set_option maxRecDepth 100000 in
set_option maxHeartbeats 2000000 in
theorem checkUnit_any (K S P V : Int) (L : List In4) (T : ByteArray) (ao : Option Addr) (cap : Nat) (w : World) (hH : HeldIns w ao L) (hn : L.length ≤ 9223372036854775807) (hs : T.size ≤ maxLen) :
    Calls Tryd.prog 14 #[.agg #[.int .i64 K, .int .i64 S, .int .i64 P, .int .i64 V, .slice ao L.length cap, .string T]] w fun e w' =>
      e = .returned (.tuple #[.int .i64 (unitE K S P V L T).1, .int .i64 (unitE K S P V L T).2]) ∧ Below w.heap.size w w' := by
  by_cases hu : UnitBad K S P V L.length
  · have he := hide (unitE_bad (T := T) hu)
    rcases unit_cases hu with h | ⟨g1, h⟩ | ⟨g1, g2, h⟩ | ⟨g1, g2, g3, h⟩ | ⟨g1, g2, g3, g4, h⟩ | ⟨g1, g2, g3, g4, g5, h⟩ | ⟨g1, g2, g3, g4, g5, g6, h⟩ | ⟨g1, g2, g3, g4, g5, g6, g7, h⟩ | ⟨g1, g2, g3, g4, g5, g6, g7, g8, h⟩ | ⟨g1, g2, g3, g4, g5, g6, g7, g8, g9, h⟩ | ⟨g1, g2, g3, g4, g5, g6, g7, g8, g9, g10, h⟩
    all_goals
      clear hu
      go_enter Tryd.func14, Tryd.ntmps14
      go_wp2
      go_ret2
      exact ⟨ret2 (by rw [unhide he]) (by rw [unhide he]), (Below.refl _ _).alloc (Nat.le_refl _) _⟩
  · exact checkUnit_good K S P V L T ao cap w hH hs hu
end Go.Proofs.YtoepcplbpochpaaDoor

/-
  The document's own run: what an instruction makes of a moment: (*lodgeref.Moment).pass.
-/
namespace Go.Proofs.YtoepcplbpochpaaDoor
open Go.RowKit

def endI (s : St) : Int := if s.on then -1 else s.kind
/-- A moment in memory: its block, the registers' and the variables'. -/
structure MomB (w : World) (M G H R V : Nat) (s : St) : Prop where
  at_ : w.cell? ⟨M, 0, none⟩ = some (.int .i64 (s.at_ : Int))
  rg : w.cell? ⟨M, 1, none⟩ = some (.slice (some ⟨G, 0, none⟩) R R)
  vr : w.cell? ⟨M, s.env.vc, none⟩ = some (.slice (some ⟨H, 0, none⟩) V V)
  en : w.cell? ⟨M, 4, none⟩ = some (.int .i64 (endI s))
  vl : w.cell? ⟨M, 5, none⟩ = some (.int .i64 s.val)
  regs : ∀ i, i < R → w.cell? ⟨G, i, none⟩ = some (.int .i64 (s.regs i))
  vars : ∀ i, i < V → w.cell? ⟨H, i, none⟩ = some (.int .i64 (s.vars i))
  fm : ∀ o, w.frozen? ⟨M, o, none⟩ = false
  fg : ∀ o, w.frozen? ⟨G, o, none⟩ = false
  fh : ∀ o, w.frozen? ⟨H, o, none⟩ = false
  ig : G < w.heap.size
  ih : H < w.heap.size
  mg : M ≠ G
  mh : M ≠ H
  gh : G ≠ H
  hc : s.env.vc = 2 ∨ s.env.vc = 3
theorem MomB.im {w : World} {M G H R V : Nat} {s : St} (h : MomB w M G H R V s) : M < w.heap.size := World.block_lt_of_cell? w ⟨M, 0, none⟩ h.at_
theorem MomB.of_block {w w' : World} {M G H R V : Nat} {s : St} (h : MomB w M G H R V s) (hm : w'.heap[M]? = w.heap[M]?) (hg : w'.heap[G]? = w.heap[G]?) (hh : w'.heap[H]? = w.heap[H]?) (hz : w.heap.size ≤ w'.heap.size) : MomB w' M G H R V s :=
  ⟨(World.cell?_of_block hm).trans h.at_, (World.cell?_of_block hm).trans h.rg, (World.cell?_of_block hm).trans h.vr, (World.cell?_of_block hm).trans h.en, (World.cell?_of_block hm).trans h.vl,
   fun i hi => (World.cell?_of_block hg).trans (h.regs i hi), fun i hi => (World.cell?_of_block hh).trans (h.vars i hi),
   fun o => (World.frozen?_of_block hm).trans (h.fm o), fun o => (World.frozen?_of_block hg).trans (h.fg o), fun o => (World.frozen?_of_block hh).trans (h.fh o), Nat.lt_of_lt_of_le h.ig hz, Nat.lt_of_lt_of_le h.ih hz, h.mg, h.mh, h.gh, h.hc⟩
theorem MomB.drew {w : World} {M G H R V : Nat} {s : St} (h : MomB w M G H R V s) : MomB w.drew M G H R V s := h.of_block rfl rfl rfl (Nat.le_refl _)
theorem MomB.keep {S : Nat → Prop} {w w' : World} {M G H R V : Nat} {s : St} (h : MomB w M G H R V s) (hk : Keep S w w') (hm : ¬ S M) (hg : ¬ S G) (hh : ¬ S H) : MomB w' M G H R V s :=
  h.of_block (hk.block M h.im hm) (hk.block G h.ig hg) (hk.block H h.ih hh) hk.size
theorem MomB.same {w : World} {M G H R V : Nat} {s s' : St} (h : MomB w M G H R V s) (h1 : s'.at_ = s.at_) (h2 : s'.regs = s.regs) (h3 : s'.vars = s.vars) (h4 : endI s' = endI s) (h5 : s'.val = s.val) (h6 : s'.env = s.env := by rfl) : MomB w M G H R V s' :=
  ⟨by rw [h1]; exact h.at_, h.rg, by rw [h6]; exact h.vr, by rw [h4]; exact h.en, by rw [h5]; exact h.vl, by rw [h2]; exact h.regs, by rw [h3]; exact h.vars, h.fm, h.fg, h.fh, h.ig, h.ih, h.mg, h.mh, h.gh, by rw [h6]; exact h.hc⟩

theorem cell_far {w : World} {A B i o : Nat} {v u : Value} (h : w.cell? ⟨A, o, none⟩ = some u) (hne : A ≠ B) : (w.setCell ⟨B, i, none⟩ v).cell? ⟨A, o, none⟩ = some u := by
  rw [World.cell?_setCell_other _ _ _ _ (fun e => hne (by injection e with e1; exact e1.symm))]; exact h
theorem frozen_far {w : World} {A B i : Nat} {v : Value} (h : ∀ o, w.frozen? ⟨A, o, none⟩ = false) : ∀ o, (w.setCell ⟨B, i, none⟩ v).frozen? ⟨A, o, none⟩ = false := fun o => by
  rw [World.frozen?_setCell]; exact h o

theorem MomB.set_reg {w : World} {M G H R V : Nat} {s : St} (h : MomB w M G H R V s) (d : Nat) (hd : d < R) (v : Int) : MomB (w.setCell ⟨G, d, none⟩ (.int .i64 v)) M G H R V (s.reg d v) := by
  refine ⟨cell_far h.at_ h.mg, cell_far h.rg h.mg, cell_far h.vr h.mg, cell_far h.en h.mg, cell_far h.vl h.mg, fun i hi => ?_, fun i hi => cell_far (h.vars i hi) h.gh.symm, frozen_far h.fm, frozen_far h.fg, frozen_far h.fh, by simp; exact h.ig, by simp; exact h.ih, h.mg, h.mh, h.gh, h.hc⟩
  by_cases hid : i = d
  · subst hid; rw [cell_put (h.regs i hi)]; show _ = some (Value.int .i64 (upd s.regs i v i)); rw [upd_same]
  · rw [cell_set (h.regs i hi) hid]; show _ = some (Value.int .i64 (upd s.regs d v i)); rw [upd_other _ _ hid]
theorem MomB.set_var {w : World} {M G H R V : Nat} {s : St} (h : MomB w M G H R V s) (d : Nat) (hd : d < V) (v : Int) : MomB (w.setCell ⟨H, d, none⟩ (.int .i64 v)) M G H R V (s.var d v) := by
  refine ⟨cell_far h.at_ h.mh, cell_far h.rg h.mh, cell_far h.vr h.mh, cell_far h.en h.mh, cell_far h.vl h.mh, fun i hi => cell_far (h.regs i hi) h.gh, fun i hi => ?_, frozen_far h.fm, frozen_far h.fg, frozen_far h.fh, by simp; exact h.ig, by simp; exact h.ih, h.mg, h.mh, h.gh, h.hc⟩
  by_cases hid : i = d
  · subst hid; rw [cell_put (h.vars i hi)]; show _ = some (Value.int .i64 (upd s.vars i v i)); rw [upd_same]
  · rw [cell_set (h.vars i hi) hid]; show _ = some (Value.int .i64 (upd s.vars d v i)); rw [upd_other _ _ hid]
theorem MomB.set_at {w : World} {M G H R V : Nat} {s : St} (h : MomB w M G H R V s) (p : Nat) {z : Int} (hz : z = (p : Int)) : MomB (w.setCell ⟨M, 0, none⟩ (.int .i64 z)) M G H R V (s.goto p) := by
  rw [hz]
  exact ⟨cell_put h.at_, cell_set h.rg (by omega), cell_set h.vr (show s.env.vc ≠ 0 by have := h.hc; omega), cell_set h.en (by omega), cell_set h.vl (by omega), fun i hi => cell_far (h.regs i hi) h.mg.symm, fun i hi => cell_far (h.vars i hi) h.mh.symm, frozen_far h.fm, frozen_far h.fg, frozen_far h.fh, by simp; exact h.ig, by simp; exact h.ih, h.mg, h.mh, h.gh, h.hc⟩
theorem MomB.set_end {w : World} {M G H R V : Nat} {s : St} (h : MomB w M G H R V s) (k : Int) : MomB (w.setCell ⟨M, 4, none⟩ (.int .i64 k)) M G H R V (s.ended k s.val) :=
  ⟨cell_set h.at_ (by omega), cell_set h.rg (by omega), cell_set h.vr (show s.env.vc ≠ 4 by have := h.hc; omega), cell_put h.en, cell_set h.vl (by omega), fun i hi => cell_far (h.regs i hi) h.mg.symm, fun i hi => cell_far (h.vars i hi) h.mh.symm, frozen_far h.fm, frozen_far h.fg, frozen_far h.fh, by simp; exact h.ig, by simp; exact h.ih, h.mg, h.mh, h.gh, h.hc⟩
theorem MomB.set_val {w : World} {M G H R V : Nat} {s : St} (h : MomB w M G H R V s) (v : Int) : MomB (w.setCell ⟨M, 5, none⟩ (.int .i64 v)) M G H R V { s with val := v } :=
  ⟨cell_set h.at_ (by omega), cell_set h.rg (by omega), cell_set h.vr (show s.env.vc ≠ 5 by have := h.hc; omega), cell_set h.en (by omega), cell_put h.vl, fun i hi => cell_far (h.regs i hi) h.mg.symm, fun i hi => cell_far (h.vars i hi) h.mh.symm, frozen_far h.fm, frozen_far h.fg, frozen_far h.fh, by simp; exact h.ig, by simp; exact h.ih, h.mg, h.mh, h.gh, h.hc⟩

/-- The three blocks of a moment. -/
def Mine (M G H : Nat) : Nat → Prop := fun k => k = M ∨ k = G ∨ k = H
theorem keep_m {M G H : Nat} {a w : World} (h : Keep (Mine M G H) a w) (o : Nat) (u : Value) : Keep (Mine M G H) a (w.setCell ⟨M, o, none⟩ u) := Keep.setCell (S := Mine M G H) h (p := ⟨M, o, none⟩) (.inl rfl) u
theorem keep_g {M G H : Nat} {a w : World} (h : Keep (Mine M G H) a w) (o : Nat) (u : Value) : Keep (Mine M G H) a (w.setCell ⟨G, o, none⟩ u) := Keep.setCell (S := Mine M G H) h (p := ⟨G, o, none⟩) (.inr (.inl rfl)) u
theorem keep_h {M G H : Nat} {a w : World} (h : Keep (Mine M G H) a w) (o : Nat) (u : Value) : Keep (Mine M G H) a (w.setCell ⟨H, o, none⟩ u) := Keep.setCell (S := Mine M G H) h (p := ⟨H, o, none⟩) (.inr (.inr rfl)) u

/-- What a step leaves of a moment. -/
def PassPost (w : World) (M G H R V : Nat) (s' : St) (e : Ending) (w' : World) : Prop :=
  e = .returned (.tuple #[]) ∧ MomB w' M G H R V s' ∧ Keep (Mine M G H) w w'
theorem PassPost.drew {w w' : World} {M G H R V : Nat} {s : St} {e : Ending} (h : PassPost w M G H R V s e w') : PassPost w M G H R V s e w'.drew := ⟨h.1, h.2.1.drew, h.2.2.drew⟩

/-- The world in which the instruction's own work begins. -/
def passW (w : World) (M : Nat) (s : St) (op d a b : Int) : World :=
  (w.setCell ⟨M, 0, none⟩ (.int .i64 ((s.at_ : Int) + 1))).alloc (.cells #[.int .i64 op, .int .i64 d, .int .i64 a, .int .i64 b] 77)
theorem pass_open {w : World} {M G H R V : Nat} {s : St} (op d a b : Int) (h : MomB w M G H R V s) :
    ∃ w2, w2 = passW w M s op d a b ∧ Hid (MomB w2 M G H R V s.next) ∧ Hid (Keep (Mine M G H) w w2) ∧
      w2.cell? ⟨w.heap.size, 0, none⟩ = some (.int .i64 op) ∧ w2.cell? ⟨w.heap.size, 1, none⟩ = some (.int .i64 d) ∧ w2.cell? ⟨w.heap.size, 2, none⟩ = some (.int .i64 a) ∧ w2.cell? ⟨w.heap.size, 3, none⟩ = some (.int .i64 b) := by
  have hk : Keep (Mine M G H) w (passW w M s op d a b) := (keep_m (Keep.refl _ _) _ _).alloc _
  have hsz : (w.setCell ⟨M, 0, none⟩ (.int .i64 ((s.at_ : Int) + 1))).heap.size = w.heap.size := by simp
  have h1 := h.set_at (s.at_ + 1) (z := (s.at_ : Int) + 1) (by omega)
  have h2 : MomB (passW w M s op d a b) M G H R V (s.goto (s.at_ + 1)) := h1.of_block (Below.heap_alloc _ _ _ (by rw [hsz]; exact h.im)) (Below.heap_alloc _ _ _ (by rw [hsz]; exact h.ig)) (Below.heap_alloc _ _ _ (by rw [hsz]; exact h.ih)) (by unfold passW; simp)
  have q : ∀ i, (passW w M s op d a b).cell? ⟨w.heap.size, i, none⟩ = #[Value.int .i64 op, .int .i64 d, .int .i64 a, .int .i64 b][i]? := fun i => World.cell?_alloc_at (hn := hsz.symm) ..
  exact ⟨_, rfl, h2.same rfl rfl rfl rfl rfl, hk, (q 0).trans rfl, (q 1).trans rfl, (q 2).trans rfl, (q 3).trans rfl⟩
end Go.Proofs.YtoepcplbpochpaaDoor
