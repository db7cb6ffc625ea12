/-
  The writer in memory, and what putting one instruction leaves behind: (*lodge.writer).put.
-/
import Derived.Test.YtoepcplbpochpaaDoorPiece11
import Derived.Test.YtoepcplbpochpaaDoorPiece7
import Derived.Deep.RegionHeld3

namespace Go.Proofs.YtoepcplbpochpaaDoor
open Go.RowKit

def In4.cells (x : In4) : List Value := [.int .i64 x.op, .int .i64 x.d, .int .i64 x.a, .int .i64 x.b]
def insCells (l : List In4) : List Value := l.flatMap In4.cells
theorem insCells_len (l : List In4) : (insCells l).length = l.length * 4 := by
  unfold insCells
  induction l with
  | nil => rfl
  | cons r l ih => rw [List.flatMap_cons, List.length_append, ih, List.length_cons]; show 4 + _ = _; omega
theorem insCells_snoc (l : List In4) (r : In4) : insCells (l ++ [r]) = insCells l ++ r.cells := by unfold insCells; rw [List.flatMap_append]; simp

/-- The writer's cells. -/
def wrV (hs : Nat → Bool) (ha : Nat → Nat) (K : Nat) (sv : Value) (st : Nat → Nat) : Nat → Value := fun o => if o < 24 then homV hs ha o else if o = 24 then .int .i64 K else if o = 25 then sv else .int .i64 (st (o - 26))
/-- The writer has written the code C. -/
structure WrB (w : World) (B : Nat) (hs : Nat → Bool) (ha : Nat → Nat) (K : Nat) (st : Nat → Nat) (C : List In4) (sv : Value) : Prop where
  row : Rowd w B 117 66 (wrV hs ha K sv st)
  own : w.ownsRow (B + 1) 77 4 sv C.length (insCells C)
theorem WrB.hs {w : World} {B : Nat} {hs : Nat → Bool} {ha : Nat → Nat} {K : Nat} {st : Nat → Nat} {C : List In4} {sv : Value} (h : WrB w B hs ha K st C sv) {r : Nat} (hr : r < 12) : w.cell? ⟨B, r * 2, none⟩ = some (.bool (hs r)) := by
  rw [h.row.cell (by omega)]; unfold wrV homV; rw [if_pos (by omega), if_pos (by omega), show r * 2 / 2 = r by omega]
theorem WrB.ha {w : World} {B : Nat} {hs : Nat → Bool} {ha : Nat → Nat} {K : Nat} {st : Nat → Nat} {C : List In4} {sv : Value} (h : WrB w B hs ha K st C sv) {r : Nat} (hr : r < 12) : w.cell? ⟨B, r * 2 + 1, none⟩ = some (.int .i64 (ha r)) := by
  rw [h.row.cell (by omega)]; unfold wrV homV; rw [if_pos (by omega), if_neg (by omega), show (r * 2 + 1) / 2 = r by omega]
theorem WrB.k {w : World} {B : Nat} {hs : Nat → Bool} {ha : Nat → Nat} {K : Nat} {st : Nat → Nat} {C : List In4} {sv : Value} (h : WrB w B hs ha K st C sv) : w.cell? ⟨B, 24, none⟩ = some (.int .i64 K) := (h.row.cell (by omega)).trans rfl
theorem WrB.sv {w : World} {B : Nat} {hs : Nat → Bool} {ha : Nat → Nat} {K : Nat} {st : Nat → Nat} {C : List In4} {sv : Value} (h : WrB w B hs ha K st C sv) : w.cell? ⟨B, 25, none⟩ = some sv := (h.row.cell (by omega)).trans rfl
theorem WrB.lt {w : World} {B : Nat} {hs : Nat → Bool} {ha : Nat → Nat} {K : Nat} {st : Nat → Nat} {C : List In4} {sv : Value} (h : WrB w B hs ha K st C sv) : B < w.heap.size := h.row.lt
theorem WrB.keep0 {w w' : World} {B : Nat} {hs : Nat → Bool} {ha : Nat → Nat} {K : Nat} {st : Nat → Nat} {C : List In4} {sv : Value} (h : WrB w B hs ha K st C sv) (hk : Keep (fun _ => False) w w') : WrB w' B hs ha K st C sv :=
  ⟨h.row.keep hk (fun h => h), own_keep h.own hk (fun _ _ h => h)⟩
theorem WrB.below {w w' : World} {B : Nat} {hs : Nat → Bool} {ha : Nat → Nat} {K : Nat} {st : Nat → Nat} {C : List In4} {sv : Value} (h : WrB w B hs ha K st C sv) (hb : Below w.heap.size w w') : WrB w' B hs ha K st C sv := h.keep0 (Keep.of_below hb _)
theorem WrB.drew {w : World} {B : Nat} {hs : Nat → Bool} {ha : Nat → Nat} {K : Nat} {st : Nat → Nat} {C : List In4} {sv : Value} (h : WrB w B hs ha K st C sv) : WrB w.drew B hs ha K st C sv := h.keep0 (Keep.refl _ _).drew

/-- What writing leaves as it was: all but the writer's block and the block of its code; the code moves to new memory alone. -/
structure WrStep (B : Nat) (w : World) (sv : Value) (w' : World) (sv' : Value) : Prop where
  keep : Keep (fun k => k = B ∨ some k = sv.ownBlock) w w'
  fresh : ∀ k, k < w.heap.size → some k ≠ sv.ownBlock → some k ≠ sv'.ownBlock
theorem WrStep.refl (B : Nat) (w : World) (sv : Value) : WrStep B w sv w sv := ⟨Keep.refl _ _, fun _ _ h => h⟩
theorem WrStep.trans {B : Nat} {w w1 w2 : World} {sv sv1 sv2 : Value} (h : WrStep B w sv w1 sv1) (h' : WrStep B w1 sv1 w2 sv2) : WrStep B w sv w2 sv2 := by
  refine ⟨h.keep.trans h'.keep (fun i hi hS => ?_), fun k hk hn => h'.fresh k (Nat.lt_of_lt_of_le hk h.keep.size) (h.fresh k hk hn)⟩
  rcases hS with e | e
  · exact .inl e
  · right
    rcases Classical.em (some i = sv.ownBlock) with h1 | h1
    · exact h1
    · exact absurd e (h.fresh i hi h1)
theorem WrStep.quiet {B : Nat} {w w' : World} {sv : Value} (h : Keep (fun _ => False) w w') : WrStep B w sv w' sv := ⟨h.mono (fun _ _ h => h.elim), fun _ _ h => h⟩
theorem WrStep.below {B : Nat} {w w' : World} {sv : Value} (h : Below w.heap.size w w') : WrStep B w sv w' sv := .quiet (Keep.of_below h _)
theorem WrStep.block {B : Nat} {w w' : World} {sv sv' : Value} (h : WrStep B w sv w' sv') {k : Nat} (hk : k < w.heap.size) (h1 : k ≠ B) (h2 : some k ≠ sv.ownBlock) : w'.heap[k]? = w.heap[k]? := h.keep.block k hk (fun h => h.elim h1 h2)
/-- Below the writer all is as it was. -/
theorem WrStep.under {B : Nat} {w w' : World} {hs : Nat → Bool} {ha : Nat → Nat} {K : Nat} {st : Nat → Nat} {C : List In4} {sv sv' : Value} (h : WrStep B w sv w' sv') (hw : WrB w B hs ha K st C sv) : Below B w w' :=
  h.keep.below (Nat.le_of_lt hw.lt) (fun k hk e => e.elim (fun e => by omega) (fun e => by have := (own_in hw.own k e.symm).1; omega))
/-- A block that lay there ahead of writing is not the code's. -/
theorem WrB.apart {w : World} {B : Nat} {hs : Nat → Bool} {ha : Nat → Nat} {K : Nat} {st : Nat → Nat} {C : List In4} {sv : Value} (h : WrB w B hs ha K st C sv) {k : Nat} (hk : w.heap.size ≤ k) : some k ≠ sv.ownBlock := fun e => by
  have := (own_in h.own k e.symm).2; omega

def PutPost (w : World) (B : Nat) (hs : Nat → Bool) (ha : Nat → Nat) (K : Nat) (st : Nat → Nat) (C : List In4) (sv : Value) (e : Ending) (w' : World) : Prop :=
  e = .returned (.tuple #[]) ∧ ∃ sv', WrB w' B hs ha K st C sv' ∧ WrStep B w sv w' sv'
theorem PutPost.drew {w w' : World} {B : Nat} {hs : Nat → Bool} {ha : Nat → Nat} {K : Nat} {st : Nat → Nat} {C : List In4} {sv : Value} {e : Ending} (h : PutPost w B hs ha K st C sv e w') : PutPost w B hs ha K st C sv e w'.drew := by
  obtain ⟨h1, sv', h2, h3⟩ := h
  exact ⟨h1, sv', h2.drew, h3.trans (.quiet (Keep.refl _ _).drew)⟩

theorem put_post {w w2 wz w3 : World} {B g cap H : Nat} {hs : Nat → Bool} {ha : Nat → Nat} {K : Nat} {st : Nat → Nat} {C : List In4} {sv : Value} {x : In4} (hw : WrB w2 B hs ha K st C sv) (hK2 : Keep (fun _ => False) w w2) (hz : Keep (fun _ => False) w2 wz) (hg : wz.grownBy w3 sv.ownBlock)
    (hat : sv.ownBlock = some g ∨ g = H) (hH : w2.heap.size ≤ H)
    (hown : w3.ownsRow (B + 1) 77 4 (.slice (some ⟨g, 0, none⟩) (C.length + 1) cap) (C.length + 1) (insCells C ++ [.int .i64 x.op, .int .i64 x.d, .int .i64 x.a, .int .i64 x.b])) :
    PutPost w B hs ha K st (C ++ [x]) sv (.returned (.tuple #[])) (w3.setCell ⟨B, 25, none⟩ (.slice (some ⟨g, 0, none⟩) (C.length + 1) cap)) := by
  have hB2 := hw.lt
  have hne : some B ≠ sv.ownBlock := fun e => by have := (own_in hw.own B e.symm).1; omega
  have hbl := grown_block hz hg hne hB2
  have hk3 : Keep (fun k => some k = sv.ownBlock) w2 w3 := (hz.mono (fun _ _ h => h.elim)).grown hg (fun k e _ => e.symm)
  have hkB : Keep (fun k => k = B) w3 (w3.setCell ⟨B, 25, none⟩ (.slice (some ⟨g, 0, none⟩) (C.length + 1) cap)) := keep_set (Keep.refl _ _) _ _
  refine ⟨rfl, .slice (some ⟨g, 0, none⟩) (C.length + 1) cap, ⟨?_, ?_⟩, ⟨?_, ?_⟩⟩
  · refine ((hw.row.of_block hbl).set 25 _).congr (fun o ho => ?_)
    unfold wrV
    by_cases e : o = 25
    · subst e; rw [if_pos rfl, if_neg (by omega), if_neg (by omega), if_pos rfl]
    · rw [if_neg e, if_neg e, if_neg e]
  · rw [List.length_append, insCells_snoc]
    exact own_keep hown hkB (fun k hk e => by have := (own_in hown k hk).1; omega)
  · exact ((hK2.mono (T := fun k => k = B ∨ some k = sv.ownBlock) (fun _ _ h => h.elim)).trans hk3 (fun _ _ h => .inr h)).trans hkB (fun _ _ h => .inl h)
  · intro k hk hn e
    have e' : some k = some g := e
    injection e' with e'
    subst e'
    have := hK2.size
    rcases hat with h | h
    · exact hn h.symm
    · omega

theorem Tryd.info77 : (Tryd.prog.info? 77).map (fun i => (i.zero, i.size, i.bytes)) = some (some (.agg #[.int .i64 0, .int .i64 0, .int .i64 0, .int .i64 0]), 4, 32) := by kernel_rfl
set_option maxRecDepth 100000 in
set_option maxHeartbeats 4000000 in
theorem put1_any (B : Nat) (hs : Nat → Bool) (ha : Nat → Nat) (K : Nat) (st : Nat → Nat) (C : List In4) (sv : Value) (x : In4) (w : World) (h : WrB w B hs ha K st C sv) (hl : C.length ≤ 1000) :
    Calls Tryd.prog 126 #[.pointer (some ⟨B, 0, none⟩), .agg #[.int .i64 x.op, .int .i64 x.d, .int .i64 x.a, .int .i64 x.b]] w (PutPost w B hs ha K st (C ++ [x]) sv) := by
  have hB := h.lt
  have HI := hide h
  clear h
  obtain ⟨w2, hw2, hq, HB2, hZ⟩ := box4 w x
  have HW := hide hw2
  have HK2 : Hid (Keep (fun _ => False) w w2) := Keep.of_below (unhide HB2) _
  have HI2 := hide ((unhide HI).below (unhide HB2))
  have c25 : w2.cell? ⟨B, 25, none⟩ = some sv := (unhide HI2).sv
  have hf2 : ∀ o, w2.frozen? ⟨B, o, none⟩ = false := (unhide HI2).row.free
  have hB2 : B < w2.heap.size := (unhide HI2).lt
  have HO := hide (unhide HI2).own
  have HN : Hid (some B ≠ sv.ownBlock) := fun e => by have := (own_in (unhide HO) B e.symm).1; omega
  obtain ⟨q0, q1, q2, q3⟩ := hq
  obtain ⟨i0, hi, hz0, hz1, hz2'⟩ := info_parts Tryd.info77
  clear hw2
  go_enter Tryd.func126, Tryd.ntmps126
  go_wp2_with fail
  rw [← unhide HW]
  go_wp2_with fail
  go_region_law ((refine step_append_lies _ (by rfl) _ _ _ (by rfl) (B + 1) 77 i0 _ 4 32 Tryd.underlying22 hi hz0 hz1 hz2' rfl (by omega) sv C.length (insCells C) (by rfl) (own_keep (unhide HO) (S := fun _ => False) (by repeat first | exact Keep.refl _ _ | refine Keep.drew ?_ | refine Keep.alloc ?_ _) (fun _ _ h => h)) ⟨w2.heap.size, 0, none⟩ 1 1 [.int .i64 x.op, .int .i64 x.d, .int .i64 x.a, .int .i64 x.b] (by rfl) (by rfl) (World.news_of_block (cs := #[.int .i64 x.op, .int .i64 x.d, .int .i64 x.a, .int .i64 x.b]) (t := 77) (fr := (0, 0)) (heap_alloc_new _ _)) (by simp [Value.oneCell']) (by omega) (by unfold maxLen; omega) (by omega) (by simp; omega) (w2.heap.size + 1) (by simp) ?_; intro g cap w3 hown3 hgrow hat3 hlt3; have HBL := hide (grown_block (a := w2) (by repeat first | exact Keep.refl _ _ | refine Keep.drew ?_ | refine Keep.alloc ?_ _) hgrow (unhide HN) hB2); have b25 : w3.cell? ⟨B, 25, none⟩ = some sv := (World.cell?_of_block (unhide HBL)).trans c25; have bf : w3.frozen? ⟨B, 25, none⟩ = false := (World.frozen?_of_block (unhide HBL)).trans (hf2 25)))
  all_goals go_wp2_with fail
  all_goals go_returns
  all_goals
    have hP := put_post (x := x) (H := w2.heap.size + 1) (unhide HI2) (unhide HK2) (by repeat first | exact Keep.refl _ _ | refine Keep.drew ?_ | refine Keep.alloc ?_ _) hgrow hat3 (by omega) hown3
    first | exact hP | exact hP.drew | exact hP.drew.drew
end Go.Proofs.YtoepcplbpochpaaDoor

/-
  Between a register and its home: (*lodge.writer).spare, goal, keep, fetch.
-/
namespace Go.Proofs.YtoepcplbpochpaaDoor
open Go.RowKit

/-- The register of the machine that holds the program's r; what brings it there. -/
def fetR (hs : Nat → Bool) (ha : Nat → Nat) (K : Nat) (r n : Nat) : Int := if hs r = true then (K : Int) - 2 + n else ha r
def fetC (hs : Nat → Bool) (ha : Nat → Nat) (K : Nat) (r n : Nat) : List In4 := if hs r = true then [⟨15, (K : Int) - 2 + n, ha r, 0⟩] else []
/-- The register of the machine that is written where the program writes r; what brings it home. -/
def goalR (hs : Nat → Bool) (ha : Nat → Nat) (K : Nat) (r : Nat) : Int := if hs r = true then (K : Int) - 2 else ha r
def keepC (hs : Nat → Bool) (ha : Nat → Nat) (K : Nat) (r : Nat) : List In4 := if hs r = true then [⟨16, ha r, (K : Int) - 2, 0⟩] else []

def WPost (w : World) (B : Nat) (hs : Nat → Bool) (ha : Nat → Nat) (K : Nat) (st : Nat → Nat) (C : List In4) (sv : Value) (v : Value) (e : Ending) (w' : World) : Prop :=
  e = .returned v ∧ ∃ sv', WrB w' B hs ha K st C sv' ∧ WrStep B w sv w' sv'

set_option maxRecDepth 100000 in
set_option maxHeartbeats 4000000 in
theorem spare_any (B : Nat) (hs : Nat → Bool) (ha : Nat → Nat) (K : Nat) (st : Nat → Nat) (C : List In4) (sv : Value) (n : Nat) (w : World) (h : WrB w B hs ha K st C sv) (hK : 2 ≤ K) (hK' : K ≤ 16) (hn : n ≤ 1) :
    Calls Tryd.prog 138 #[.pointer (some ⟨B, 0, none⟩), .int .i64 n] w fun e w' => e = .returned (.int .i64 ((K : Int) - 2 + n)) ∧ w' = w := by
  have c := h.k
  clear h
  go_enter Tryd.func138, Tryd.ntmps138
  go_wp2
  go_ret
  exact ⟨ret_int (by go_num), rfl⟩

/-- A home that was boxed. -/
theorem box2 (w : World) (s : Bool) (a : Int) : ∃ w2, w2 = w.alloc (.cells #[.bool s, .int .i64 a] 111) ∧ w2.cell? ⟨w.heap.size, 0, none⟩ = some (.bool s) ∧ w2.cell? ⟨w.heap.size, 1, none⟩ = some (.int .i64 a) ∧ Hid (Below w.heap.size w w2) ∧ w.heap.size < w2.heap.size := by
  have q : ∀ i, (w.alloc (.cells #[.bool s, .int .i64 a] 111)).cell? ⟨w.heap.size, i, none⟩ = #[Value.bool s, .int .i64 a][i]? := fun i => World.cell?_alloc_at (hn := rfl) ..
  exact ⟨_, rfl, (q 0).trans rfl, (q 1).trans rfl, (Below.refl _ _).alloc (Nat.le_refl _) _, by simp⟩

set_option maxRecDepth 100000 in
set_option maxHeartbeats 4000000 in
theorem goal_any (B : Nat) (hs : Nat → Bool) (ha : Nat → Nat) (K : Nat) (st : Nat → Nat) (C : List In4) (sv : Value) (r : Nat) (w : World) (h : WrB w B hs ha K st C sv) (hK : 2 ≤ K) (hK' : K ≤ 16) (hr : r < 12) :
    Calls Tryd.prog 127 #[.pointer (some ⟨B, 0, none⟩), .int .i64 r] w fun e w' => e = .returned (.int .i64 (goalR hs ha K r)) ∧ Below w.heap.size w w' := by
  have c0 := h.hs hr
  have c1 := h.ha hr
  have hri : (r : Int) < 12 := by omega
  have HG := hide (show goalR hs ha K r = if hs r = true then (K : Int) - 2 else ha r from rfl)
  obtain ⟨s, hs'⟩ : ∃ s, s = hs r := ⟨_, rfl⟩
  rw [← hs'] at c0 HG
  clear hs'
  obtain ⟨w2, hw2, q0, q1, HB2, hz2⟩ := box2 w s (ha r)
  have HW := hide hw2
  have KS := hide (spare_any B hs ha K st C sv 0 w2 (h.below (unhide HB2)) hK hK' (by omega))
  clear hw2 h
  cases s
  · rw [if_neg (by decide)] at HG
    go_enter Tryd.func127, Tryd.ntmps127
    go_upto_region 2 with fail
    rw [← unhide HW]
    go_wp2_with fail
    go_ret
    exact ⟨ret_int (unhide HG).symm, unhide HB2⟩
  · rw [if_pos rfl] at HG
    go_enter Tryd.func127, Tryd.ntmps127
    go_upto_region 2 with fail
    rw [← unhide HW]
    go_wp2_with (go_at_call 138; refine (unhide KS).mono ?_; rintro e w3 ⟨rfl, rfl⟩)
    go_ret
    exact ⟨ret_int (by rw [unhide HG]; try simp), unhide HB2⟩

set_option maxRecDepth 100000 in
set_option maxHeartbeats 4000000 in
theorem keep_any (B : Nat) (hs : Nat → Bool) (ha : Nat → Nat) (K : Nat) (st : Nat → Nat) (C : List In4) (sv : Value) (r : Nat) (w : World) (h : WrB w B hs ha K st C sv) (hK : 2 ≤ K) (hK' : K ≤ 16) (hr : r < 12) (hl : C.length ≤ 1000) :
    Calls Tryd.prog 128 #[.pointer (some ⟨B, 0, none⟩), .int .i64 r] w (WPost w B hs ha K st (C ++ keepC hs ha K r) sv (.tuple #[])) := by
  have c0 := h.hs hr
  have c1 := h.ha hr
  have hri : (r : Int) < 12 := by omega
  have HG := hide (show keepC hs ha K r = if hs r = true then [⟨16, ha r, (K : Int) - 2, 0⟩] else [] from rfl)
  obtain ⟨s, hs'⟩ : ∃ s, s = hs r := ⟨_, rfl⟩
  rw [← hs'] at c0 HG
  clear hs'
  obtain ⟨w2, hw2, q0, q1, HB2, hz2⟩ := box2 w s (ha r)
  have HW := hide hw2
  have HI2 := hide (h.below (unhide HB2))
  have KS := hide (spare_any B hs ha K st C sv 0 w2 (unhide HI2) hK hK' (by omega))
  have KP := hide (put1_any B hs ha K st C sv ⟨16, ha r, (K : Int) - 2, 0⟩ w2 (unhide HI2) hl)
  simp only at KP
  clear hw2 h
  cases s
  · rw [if_neg (by decide)] at HG
    go_enter Tryd.func128, Tryd.ntmps128
    go_upto_region 1 with fail
    rw [← unhide HW]
    go_wp2_with fail
    go_returns
    exact ⟨rfl, sv, by rw [unhide HG, List.append_nil]; exact unhide HI2, .below (unhide HB2)⟩
  · rw [if_pos rfl] at HG
    go_enter Tryd.func128, Tryd.ntmps128
    go_upto_region 1 with fail
    rw [← unhide HW]
    have e0 : (K : Int) - 2 + ((0 : Nat) : Int) = (K : Int) - 2 := by omega
    rw [e0] at KS
    clear e0
    go_wp2_with (go_at_call 138; refine (unhide KS).mono ?_; rintro e w3 ⟨rfl, rfl⟩)
    refine (unhide KP).mono ?_
    rintro e w4 ⟨rfl, sv', h4, h5⟩
    have HP : Hid (WPost w B hs ha K st (C ++ keepC hs ha K r) sv (.tuple #[]) (.returned (.tuple #[])) w4) := ⟨rfl, sv', by rw [unhide HG]; exact h4, (WrStep.below (unhide HB2)).trans h5⟩
    clear h4 h5
    go_wp2_with fail
    go_returns
    exact unhide HP

set_option maxRecDepth 100000 in
set_option maxHeartbeats 4000000 in
theorem fetch_any (B : Nat) (hs : Nat → Bool) (ha : Nat → Nat) (K : Nat) (st : Nat → Nat) (C : List In4) (sv : Value) (r n : Nat) (w : World) (h : WrB w B hs ha K st C sv) (hK : 2 ≤ K) (hK' : K ≤ 16) (hr : r < 12) (hn : n ≤ 1) (hl : C.length ≤ 1000) :
    Calls Tryd.prog 130 #[.pointer (some ⟨B, 0, none⟩), .int .i64 r, .int .i64 n] w (WPost w B hs ha K st (C ++ fetC hs ha K r n) sv (.int .i64 (fetR hs ha K r n))) := by
  have c0 := h.hs hr
  have c1 := h.ha hr
  have hri : (r : Int) < 12 := by omega
  have HG := hide (show fetC hs ha K r n = if hs r = true then [⟨15, (K : Int) - 2 + n, ha r, 0⟩] else [] from rfl)
  have HR := hide (show fetR hs ha K r n = if hs r = true then (K : Int) - 2 + n else ha r from rfl)
  obtain ⟨s, hs'⟩ : ∃ s, s = hs r := ⟨_, rfl⟩
  rw [← hs'] at c0 HG HR
  clear hs'
  obtain ⟨w2, hw2, q0, q1, HB2, hz2⟩ := box2 w s (ha r)
  have HW := hide hw2
  have HI2 := hide (h.below (unhide HB2))
  have KS := hide (spare_any B hs ha K st C sv n w2 (unhide HI2) hK hK' hn)
  obtain ⟨y, hy⟩ : ∃ y, y = (K : Int) - 2 + n := ⟨_, rfl⟩
  have KP := hide (put1_any B hs ha K st C sv ⟨15, y, ha r, 0⟩ w2 (unhide HI2) hl)
  simp only at KP
  rw [← hy] at KS HG HR
  clear hw2 h hy
  cases s
  · rw [if_neg (by decide)] at HG HR
    go_enter Tryd.func130, Tryd.ntmps130
    go_upto_region 2 with fail
    rw [← unhide HW]
    go_wp2_with fail
    go_ret
    exact ⟨ret_int (unhide HR).symm, sv, by rw [unhide HG, List.append_nil]; exact unhide HI2, .below (unhide HB2)⟩
  · rw [if_pos rfl] at HG HR
    go_enter Tryd.func130, Tryd.ntmps130
    go_upto_region 2 with fail
    rw [← unhide HW]
    go_wp2_with (go_at_call 138; refine (unhide KS).mono ?_; rintro e w3 ⟨rfl, rfl⟩)
    refine (unhide KP).mono ?_
    rintro e w4 ⟨rfl, sv', h4, h5⟩
    have HP : Hid (WPost w B hs ha K st (C ++ fetC hs ha K r n) sv (.int .i64 (fetR hs ha K r n)) (.returned (.int .i64 y)) w4) := ⟨ret_int (unhide HR).symm, sv', by rw [unhide HG]; exact h4, (WrStep.below (unhide HB2)).trans h5⟩
    clear h4 h5
    go_wp2_with fail
    go_ret
    exact unhide HP
end Go.Proofs.YtoepcplbpochpaaDoor

/-
  The args, and the targets: (*lodge.writer).loadParams, setTargets.
-/
namespace Go.Proofs.YtoepcplbpochpaaDoor
open Go.RowKit

/-- What brings the first k args to their homes. -/
def loadC (hs : Nat → Bool) (ha : Nat → Nat) (s : Nat → Bool) : Nat → List In4
  | 0 => []
  | k + 1 => loadC hs ha s k ++ if (s k && !hs k) = true then [⟨15, ha k, k, 0⟩] else []
theorem loadC_len (hs : Nat → Bool) (ha : Nat → Nat) (s : Nat → Bool) : ∀ k, (loadC hs ha s k).length ≤ k
  | 0 => Nat.le_refl _
  | k + 1 => by
    have := loadC_len hs ha s k
    show (_ ++ ite _ _ _ : List In4).length ≤ k + 1
    rw [List.length_append]
    split <;> simp <;> omega

set_option maxRecDepth 100000 in
set_option maxHeartbeats 8000000 in
theorem loadParams_any (B : Nat) (hs : Nat → Bool) (ha : Nat → Nat) (K : Nat) (st : Nat → Nat) (C : List In4) (sv : Value) (P : Nat) (s : Nat → Bool) (w : World) (h : WrB w B hs ha K st C sv) (hP : P ≤ 12) (hl : C.length ≤ 900) :
    Calls Tryd.prog 98 #[.pointer (some ⟨B, 0, none⟩), .int .i64 P, .agg (rowA 12 (setV s))] w (WPost w B hs ha K st (C ++ loadC hs ha s P) sv (.tuple #[])) := by
  have KP := hide (fun w C sv (h : WrB w B hs ha K st C sv) x hl => put1_any B hs ha K st C sv x w h hl)
  have HLL := hide (loadC_len hs ha s)
  have HLS := hide (show ∀ k, loadC hs ha s (k + 1) = loadC hs ha s k ++ if (s k && !hs k) = true then [⟨15, ha k, k, 0⟩] else [] from fun _ => rfl)
  obtain ⟨w1, hw1, HC1, HL1, hz1⟩ := box_row w 105 12 (setV s)
  have HW := hide hw1
  have HB1 : Hid (WrB w1 B hs ha K st (C ++ loadC hs ha s 0) sv) := by rw [show loadC hs ha s 0 = [] from rfl, List.append_nil]; exact h.below (unhide HL1)
  have HS1 : Hid (WrStep B w sv w1 sv) := .below (unhide HL1)
  have HA1 : Hid (some w.heap.size ≠ sv.ownBlock) := h.apart (Nat.le_refl _)
  have hne : w.heap.size ≠ B := by have := h.lt; omega
  clear hw1 h HL1
  go_enter Tryd.func98, Tryd.ntmps98
  go_wp2_with fail
  rw [← unhide HW]
  go_wp2_with fail
  go_loopw [6] (fun i' wr => ∃ k : Nat, k ≤ P ∧ i' = .int .i64 k ∧ ∃ sv', Hid (WrB wr B hs ha K st (C ++ loadC hs ha s k) sv') ∧ Hid (WrStep B w sv wr sv') ∧ Hid (Rowd wr w.heap.size 105 12 (setV s)) ∧ Hid (some w.heap.size ≠ sv'.ownBlock)) (fun i' _ => P - (intOf i').toNat)
  case atStart => exact ⟨0, by omega, rfl, sv, unhide HB1, unhide HS1, unhide HC1, unhide HA1⟩
  case round =>
    clear HB1 HS1 HC1 HA1
    obtain ⟨k, hk, rfl, sv', HB, HS, HC, HA⟩ := hrel
    by_cases hlt : k < P
    case neg =>
      have hkP : k = P := by omega
      go_wp2_with fail
      go_returns
      exact ⟨rfl, sv', by rw [← hkP]; exact unhide HB, unhide HS⟩
    have hki : (k : Int) < 12 := by omega
    have c0 := (unhide HB).hs (r := k) (by omega)
    have c1 := (unhide HB).ha (r := k) (by omega)
    have s0 := (unhide HC).cell (show k < 12 by omega)
    unfold setV at s0
    have HE := hide (unhide HLS k)
    obtain ⟨a, hea⟩ : ∃ a, a = hs k := ⟨_, rfl⟩
    obtain ⟨b, heb⟩ : ∃ b, b = s k := ⟨_, rfl⟩
    rw [← hea] at c0 HE
    rw [← heb] at s0 HE
    clear hea heb
    obtain ⟨w3, hw3, e0, e1, HB3, hz3⟩ := box2 wr a (ha k)
    have HW3 := hide hw3
    have HW : Hid (WrB w3 B hs ha K st (C ++ loadC hs ha s k) sv') := (unhide HB).below (unhide HB3)
    have HS3 : Hid (WrStep B w sv w3 sv') := (unhide HS).trans (.below (unhide HB3))
    have HC3 := hide ((unhide HC).below (unhide HB3))
    have s3 : w3.cell? ⟨w.heap.size, k, none⟩ = some (.bool b) := ((unhide HB3).cell (p := ⟨w.heap.size, k, none⟩) (unhide HC).lt).trans s0
    clear hw3 HB HS HC HB3
    go_upto_region 5 with fail
    rw [← unhide HW3]
    clear c0 c1 s0 HW3
    rcases (show (b && !a) = true ∨ (b && !a) = false by cases b <;> cases a <;> simp) with hab | hab
    · have hb : b = true := by cases b <;> simp_all
      have ha0 : a = false := by cases a <;> simp_all
      subst hb ha0
      rw [if_pos (show (true && !false) = true from rfl)] at HE
      have KP' := hide (unhide KP w3 _ sv' (unhide HW) ⟨15, ha k, k, 0⟩ (by rw [List.length_append]; have := unhide HLL k; omega))
      simp only at KP'
      clear hab
      go_wp2_with fail
      refine (unhide KP').mono ?_
      rintro e w4 ⟨rfl, sv4, hw4, hs4⟩
      have HB4 : Hid (WrB w4 B hs ha K st (C ++ loadC hs ha s (k + 1)) sv4) := by rw [unhide HE, ← List.append_assoc]; exact hw4
      have HS4 : Hid (WrStep B w sv w4 sv4) := (unhide HS3).trans hs4
      have HC4 : Hid (Rowd w4 w.heap.size 105 12 (setV s)) := (unhide HC3).of_block (hs4.block (unhide HC3).lt hne (unhide HA))
      have HA4 : Hid (some w.heap.size ≠ sv4.ownBlock) := hs4.fresh _ (unhide HC3).lt (unhide HA)
      clear hw4 hs4 HW HS3 HC3 HA KP'
      go_wp2_with fail
      go_roundw
      case rel => exact ⟨k + 1, by omega, by go_num, sv4, unhide HB4, unhide HS4, unhide HC4, unhide HA4⟩
      case measure => simp [intOf]; omega
    · rw [hab, if_neg (by decide), List.append_nil] at HE
      have HB4 : Hid (WrB w3 B hs ha K st (C ++ loadC hs ha s (k + 1)) sv') := by rw [unhide HE]; exact unhide HW
      cases b
      · clear hab
        go_wp2_with fail
        go_roundw
        case rel => exact ⟨k + 1, by omega, by go_num, sv', unhide HB4, unhide HS3, unhide HC3, unhide HA⟩
        case measure => simp [intOf]; omega
      · have ha1 : a = true := by cases a <;> simp_all
        subst ha1
        clear hab
        go_wp2_with fail
        go_roundw
        case rel => exact ⟨k + 1, by omega, by go_num, sv', unhide HB4, unhide HS3, unhide HC3, unhide HA⟩
        case measure => simp [intOf]; omega

/-- An instruction with its target in the unit. -/
def tgt (st : Nat → Nat) (x : In4) : In4 := if x.op = 7 then ⟨x.op, x.d, st x.a.toNat, x.b⟩ else if x.op = 8 then ⟨x.op, x.d, x.a, st x.b.toNat⟩ else x
def tgtTo (st : Nat → Nat) : Nat → List In4 → List In4
  | 0, C => C
  | _ + 1, [] => []
  | k + 1, x :: C => tgt st x :: tgtTo st k C
theorem tgtTo_len (st : Nat → Nat) : ∀ k C, (tgtTo st k C).length = C.length
  | 0, _ => rfl
  | _ + 1, [] => rfl
  | k + 1, _ :: C => by show (tgtTo st k C).length + 1 = _; rw [tgtTo_len st k C]; rfl
theorem tgtTo_here (st : Nat → Nat) : ∀ k C, inAt (tgtTo st k C) k = inAt C k
  | 0, _ => rfl
  | _ + 1, [] => rfl
  | k + 1, _ :: C => tgtTo_here st k C
theorem tgtTo_step (st : Nat → Nat) : ∀ k C, k < C.length → tgtTo st (k + 1) C = (tgtTo st k C).set k (tgt st (inAt C k))
  | 0, [], h => by cases h
  | 0, _ :: _, _ => rfl
  | k + 1, [], h => by cases h
  | k + 1, x :: C, h => by
    show tgt st x :: tgtTo st (k + 1) C = tgt st x :: (tgtTo st k C).set k _
    rw [tgtTo_step st k C (by simpa using h)]; rfl
theorem tgtTo_all (st : Nat → Nat) : ∀ C, tgtTo st C.length C = C.map (tgt st)
  | [] => rfl
  | x :: C => by show tgt st x :: tgtTo st C.length C = _; rw [tgtTo_all st C]; rfl
theorem set_here : ∀ (C : List In4) (k : Nat), C.set k (inAt C k) = C
  | [], _ => rfl
  | _ :: _, 0 => rfl
  | x :: C, k + 1 => by show x :: C.set k (inAt C k) = _; rw [set_here C k]
/-- Writing one field of one instruction. -/
theorem insCells_set : ∀ (C : List In4) (i j : Nat) (v : Value) (x' : In4), j < 4 → i < C.length → x'.cells = (inAt C i).cells.set j v → (insCells C).set (i * 4 + j) v = insCells (C.set i x')
  | [], i, _, _, _, _, h, _ => by cases h
  | x :: C, 0, j, v, x', hj, _, he => by
    show (x.cells ++ insCells C).set (0 * 4 + j) v = x'.cells ++ insCells C
    rw [List.set_append_left _ _ (by show 0 * 4 + j < 4; omega), show 0 * 4 + j = j by omega, he]; rfl
  | x :: C, i + 1, j, v, x', hj, h, he => by
    show (x.cells ++ insCells C).set ((i + 1) * 4 + j) v = x.cells ++ insCells (C.set i x')
    rw [List.set_append_right _ _ (by show 4 ≤ (i + 1) * 4 + j; omega), show (i + 1) * 4 + j - x.cells.length = i * 4 + j by show (i + 1) * 4 + j - 4 = _; omega, insCells_set C i j v x' hj (by simpa using h) he]
theorem insCells_at : ∀ (C : List In4) (i j : Nat), i < C.length → j < 4 → (insCells C)[i * 4 + j]? = (inAt C i).cells[j]?
  | [], _, _, h, _ => by cases h
  | x :: C, 0, j, _, hj => by
    show (x.cells ++ insCells C)[0 * 4 + j]? = _
    rw [List.getElem?_append_left (by show 0 * 4 + j < 4; omega), show 0 * 4 + j = j by omega]; rfl
  | x :: C, i + 1, j, h, hj => by
    show (x.cells ++ insCells C)[(i + 1) * 4 + j]? = _
    rw [List.getElem?_append_right (by show 4 ≤ (i + 1) * 4 + j; omega), show (i + 1) * 4 + j - x.cells.length = i * 4 + j by show (i + 1) * 4 + j - 4 = _; omega, insCells_at C i j (by simpa using h) hj]; rfl
theorem own_set {w : World} {base g : Nat} {e : TypeId} {size n cap : Nat} {xs : List Value} (h : w.ownsRow base e size (.slice (some ⟨g, 0, none⟩) n cap) n xs) (j : Nat) (u : Value) : (w.setCell ⟨g, j, none⟩ u).ownsRow base e size (.slice (some ⟨g, 0, none⟩) n cap) n (xs.set j u) := by
  refine ⟨by rw [List.length_set]; exact h.1, .inr ?_⟩
  rcases h.2 with ⟨h1, _⟩ | ⟨g', cap', cur, h1, h2, h3, h4, h5, h6, h7⟩
  · cases h1
  · injection h1 with h1 h1' h1''
    injection h1 with h1
    injection h1 with h1
    subst h1 h1''
    refine ⟨g, cap, _, rfl, h2, heap_setCell_same w g j cur e u h3, h4, h5, by rw [Array.size_setIfInBounds]; exact h6, ?_⟩
    rw [Array.toList_setIfInBounds, ← h7, List.take_set]
/-- The code's slice. -/
theorem WrB.slice {w : World} {B : Nat} {hs : Nat → Bool} {ha : Nat → Nat} {K : Nat} {st : Nat → Nat} {C : List In4} {sv : Value} (h : WrB w B hs ha K st C sv) (hn : 1 ≤ C.length) : ∃ g cap, sv = .slice (some ⟨g, 0, none⟩) C.length cap ∧ B < g ∧ g < w.heap.size ∧ (∀ o, w.frozen? ⟨g, o, none⟩ = false) := by
  rcases h.own.2 with ⟨_, h0⟩ | ⟨g, cap, cur, h1, h2, h3, _⟩
  · omega
  · exact ⟨g, cap, h1, by omega, (Array.getElem?_eq_some_iff.1 h3).1, fun o => by simp [World.frozen?, h3]⟩
theorem own_ins {w : World} {base g n cap : Nat} {C : List In4} (h : w.ownsRow base 77 4 (.slice (some ⟨g, 0, none⟩) n cap) n (insCells C)) (hn : n = C.length) {i : Nat} (hi : i < C.length) : At4 w g (i * 4) (inAt C i) := by
  have key : ∀ j, j < 4 → w.cell? ⟨g, i * 4 + j, none⟩ = (inAt C i).cells[j]? := fun j hj => by
    have hc := World.ownsRow.cellAt h (i * 4 + j) (by omega)
    rw [hc]; exact insCells_at C i j hi hj
  exact ⟨key 0 (by omega), key 1 (by omega), key 2 (by omega), key 3 (by omega)⟩

theorem WrB.starts {w : World} {B : Nat} {hs : Nat → Bool} {ha : Nat → Nat} {K : Nat} {st : Nat → Nat} {C : List In4} {sv : Value} (h : WrB w B hs ha K st C sv) {i : Nat} (hi : i < 40) : w.cell? ⟨B, 26 + i, none⟩ = some (.int .i64 (st i)) := by
  rw [h.row.cell (by omega)]; unfold wrV; rw [if_neg (by omega), if_neg (by omega), if_neg (by omega), show 26 + i - 26 = i by omega]

set_option maxRecDepth 100000 in
set_option maxHeartbeats 8000000 in
theorem setTargets_any (B : Nat) (hs : Nat → Bool) (ha : Nat → Nat) (K : Nat) (st : Nat → Nat) (C : List In4) (sv : Value) (w : World) (h : WrB w B hs ha K st C sv) (hn : 1 ≤ C.length) (hl : C.length ≤ 900)
    (hC : ∀ i, i < C.length → ((inAt C i).op = 7 → 0 ≤ (inAt C i).a ∧ (inAt C i).a < 40) ∧ ((inAt C i).op = 8 → 0 ≤ (inAt C i).b ∧ (inAt C i).b < 40)) :
    Calls Tryd.prog 100 #[.pointer (some ⟨B, 0, none⟩)] w (WPost w B hs ha K st (C.map (tgt st)) sv (.tuple #[])) := by
  obtain ⟨g, cap, rfl, hBg, hgw, hgf⟩ := h.slice hn
  have HW0 := hide h
  have HC := hide hC
  have HST := hide (fun k hk => tgtTo_step st k C hk)
  have HLN := hide (fun k => tgtTo_len st k C)
  have HHR := hide (fun k => tgtTo_here st k C)
  have HAL := hide (tgtTo_all st C)
  clear h hC hgf
  go_enter Tryd.func100, Tryd.ntmps100
  go_wp2_with fail
  go_loopw [2] (fun i' wr => ∃ k : Nat, k ≤ C.length ∧ i' = .int .i64 k ∧ Hid (WrB wr B hs ha K st (tgtTo st k C) (.slice (some ⟨g, 0, none⟩) C.length cap)) ∧ Hid (WrStep B w (.slice (some ⟨g, 0, none⟩) C.length cap) wr (.slice (some ⟨g, 0, none⟩) C.length cap)) ∧ g < wr.heap.size) (fun i' _ => C.length - (intOf i').toNat)
  case atStart => exact ⟨0, by omega, rfl, unhide HW0, WrStep.refl _ _ _, hgw⟩
  case round =>
    obtain ⟨k, hk, rfl, HB, HS, hg⟩ := hrel
    have c25 := (unhide HB).sv
    by_cases hlt : k < C.length
    case neg =>
      have hkC : k = C.length := by omega
      go_wp2_with fail
      go_returns
      exact ⟨rfl, _, by have := unhide HB; rw [hkC, unhide HAL] at this; exact this, unhide HS⟩
    have hki : (k : Int) < C.length := by omega
    have hown := (unhide HB).own
    have hlen : C.length = (tgtTo st k C).length := (unhide HLN k).symm
    have hown' : wr.ownsRow (B + 1) 77 4 (.slice (some ⟨g, 0, none⟩) C.length cap) C.length (insCells (tgtTo st k C)) := by
      have := hown; rw [← hlen] at this; exact this
    have hat := own_ins hown' hlen (i := k) (by rw [← hlen]; exact hlt)
    rw [unhide HHR k] at hat
    have HO := hide hown'
    have HLE := hide hlen
    clear hown hown' hlen
    obtain ⟨x, hx⟩ : ∃ x, x = inAt C k := ⟨_, rfl⟩
    rw [← hx] at hat
    have hCk := unhide HC k hlt
    have HSk := hide (unhide HST k hlt)
    rw [← hx] at hCk HSk
    have HX := hide hx
    clear hx
    obtain ⟨q0, q1, q2, q3⟩ := hat
    obtain ⟨w3, hw3, hy, HB3, hz3⟩ := box4 wr x
    have HW3 := hide hw3
    have HR3 := hide ((unhide HB).below (unhide HB3))
    have HS3 : Hid (WrStep B w (.slice (some ⟨g, 0, none⟩) C.length cap) w3 (.slice (some ⟨g, 0, none⟩) C.length cap)) := (unhide HS).trans (.below (unhide HB3))
    have HO3 : Hid (w3.ownsRow (B + 1) 77 4 (.slice (some ⟨g, 0, none⟩) C.length cap) C.length (insCells (tgtTo st k C))) := own_keep (unhide HO) (Keep.of_below (unhide HB3) (fun _ => False)) (fun _ _ h => h)
    have hg3 : g < w3.heap.size := by omega
    obtain ⟨y0, y1, y2, y3⟩ := hy
    go_upto_region 4 with fail
    rw [← unhide HW3]
    clear q0 q1 q2 q3 c25 hw3 HW3 HB3 HO HB HS
    have c25 := (unhide HR3).sv
    have hBw := (unhide HR3).lt
    have hgf : ∀ o, w3.frozen? ⟨g, o, none⟩ = false := by
      rcases (unhide HO3).2 with ⟨h1, _⟩ | ⟨g', cap', cur, h1, h2, h3, _⟩
      · cases h1
      · injection h1 with h1
        injection h1 with h1
        injection h1 with h1
        subst h1
        intro o
        simp [World.frozen?, h3]
    have hq := own_ins (unhide HO3) (unhide HLE) (i := k) (by rw [← unhide HLE]; exact hlt)
    rw [unhide HHR k, ← unhide HX] at hq
    obtain ⟨q0, q1, q2, q3⟩ := hq
    have hNg : wr.heap.size ≠ g := by omega
    have hBn : B ≠ g := by omega
    -- what a store of one field leaves behind
    have HSET : Hid (∀ (j : Nat) (v : Int) (x' : In4), j < 4 → x' = tgt st x → x'.cells = x.cells.set j (.int .i64 v) → WrB ((w3.setCell ⟨g, k * 4 + j, none⟩ (.int .i64 v)).drew) B hs ha K st (tgtTo st (k + 1) C) (.slice (some ⟨g, 0, none⟩) C.length cap)) := fun j v x' hj hx' hc => by
      have hrow := ((unhide HR3).row.of_block (heap_setCell_other w3 ⟨g, k * 4 + j, none⟩ B (.int .i64 v) hBn)).drew
      refine ⟨hrow, ?_⟩
      have ho := own_set (unhide HO3) (k * 4 + j) (.int .i64 v)
      rw [insCells_set (tgtTo st k C) k j _ x' hj (by rw [← unhide HLE]; exact hlt) (by rw [unhide HHR k, ← unhide HX]; exact hc), hx', ← unhide HSk] at ho
      rw [unhide HLN (k + 1)]
      exact own_keep ho (Keep.refl (fun _ => False) _).drew (fun _ _ h => h)
    have HSTP : Hid (∀ (j : Nat) (v : Value), WrStep B w (.slice (some ⟨g, 0, none⟩) C.length cap) ((w3.setCell ⟨g, k * 4 + j, none⟩ v).drew) (.slice (some ⟨g, 0, none⟩) C.length cap)) := fun j v =>
      (unhide HS3).trans ⟨((Keep.refl (fun k => k = B ∨ some k = (Value.slice (some ⟨g, 0, none⟩) C.length cap).ownBlock) w3).setCell (p := ⟨g, k * 4 + j, none⟩) (.inr rfl) v).drew, fun _ _ h => h⟩
    have hkB : ∀ (wq : World) (j o : Nat) (z : Value), (wq.setCell ⟨g, j, none⟩ z).cell? ⟨B, o, none⟩ = wq.cell? ⟨B, o, none⟩ := fun wq j o z => World.cell?_setCell_other _ _ _ _ (fun e => by injection e with e1; omega)
    have hkN : ∀ (wq : World) (j o : Nat) (z : Value), (wq.setCell ⟨g, j, none⟩ z).cell? ⟨wr.heap.size, o, none⟩ = wq.cell? ⟨wr.heap.size, o, none⟩ := fun wq j o z => World.cell?_setCell_other _ _ _ _ (fun e => by injection e with e1; omega)
    by_cases h7 : x.op = 7
    · obtain ⟨a0, a1⟩ := hCk.1 h7
      obtain ⟨an, han⟩ : ∃ an : Nat, x.a = an := ⟨x.a.toNat, by omega⟩
      have s1 := (unhide HR3).starts (i := an) (by omega)
      have a2 : (an : Int) < 40 := by omega
      have HT := hide (unhide HSET 2 (st an) ⟨x.op, x.d, st an, x.b⟩ (by omega) (by unfold tgt; rw [if_pos h7, han, Int.toNat_natCast]) rfl)
      have HU := hide (unhide HSTP 2 (.int .i64 (st an)))
      obtain ⟨z, hz⟩ : ∃ z, z = st an := ⟨_, rfl⟩
      rw [← hz] at s1 HT HU
      rw [h7] at y0
      rw [han] at y2
      clear hz hCk HSET HSTP a0 a1 h7 han q0 q1 q3 y1 y3
      go_upto_region 6 with fail
      go_region_held3 (fun w' => w'.cell? ⟨B, 25, none⟩ = some (.slice (some ⟨g, 0, none⟩) C.length cap) ∧ w'.cell? ⟨wr.heap.size, 2, none⟩ = some (.int .i64 (an : Int)) ∧ w'.cell? ⟨B, 26 + an, none⟩ = some (.int .i64 (z : Int))) (first | (simp [*]; done) | assumption) (fail)
      obtain ⟨w5, hw5⟩ : ∃ w5, w5 = (w3.setCell ⟨g, k * 4 + 2, none⟩ (.int .i64 (z : Int))).drew := ⟨_, rfl⟩
      rw [← hw5] at HT HU ⊢
      have hg5 : g < w5.heap.size := by rw [hw5]; simp; exact hg3
      clear hw5 c25 s1
      go_wp2_with fail
      go_roundw
      case rel => exact ⟨k + 1, by omega, by go_num, unhide HT, unhide HU, hg5⟩
      case measure => simp [intOf]; omega
    by_cases h8 : x.op = 8
    · obtain ⟨a0, a1⟩ := hCk.2 h8
      obtain ⟨an, han⟩ : ∃ an : Nat, x.b = an := ⟨x.b.toNat, by omega⟩
      have s1 := (unhide HR3).starts (i := an) (by omega)
      have a2 : (an : Int) < 40 := by omega
      have HT := hide (unhide HSET 3 (st an) ⟨x.op, x.d, x.a, st an⟩ (by omega) (by unfold tgt; rw [if_neg (by omega), if_pos h8, han, Int.toNat_natCast]) rfl)
      have HU := hide (unhide HSTP 3 (.int .i64 (st an)))
      obtain ⟨z, hz⟩ : ∃ z, z = st an := ⟨_, rfl⟩
      rw [← hz] at s1 HT HU
      rw [h8] at y0
      rw [han] at y3
      clear hz hCk HSET HSTP a0 a1 h7 h8 han q0 q1 q2 y1 y2
      go_upto_region 8 with fail
      go_region_held3 (fun w' => w'.cell? ⟨B, 25, none⟩ = some (.slice (some ⟨g, 0, none⟩) C.length cap) ∧ w'.cell? ⟨wr.heap.size, 3, none⟩ = some (.int .i64 (an : Int)) ∧ w'.cell? ⟨B, 26 + an, none⟩ = some (.int .i64 (z : Int))) (first | (simp [*]; done) | assumption) (fail)
      obtain ⟨w5, hw5⟩ : ∃ w5, w5 = (w3.setCell ⟨g, k * 4 + 3, none⟩ (.int .i64 (z : Int))).drew := ⟨_, rfl⟩
      rw [← hw5] at HT HU ⊢
      have hg5 : g < w5.heap.size := by rw [hw5]; simp; exact hg3
      clear hw5 c25 s1
      go_wp2_with fail
      go_roundw
      case rel => exact ⟨k + 1, by omega, by go_num, unhide HT, unhide HU, hg5⟩
      case measure => simp [intOf]; omega
    · have g7 : (x.op == 7) = false := by rw [beq_eq_false_iff_ne]; exact h7
      have g8 : (x.op == 8) = false := by rw [beq_eq_false_iff_ne]; exact h8
      have HT : Hid (WrB w3 B hs ha K st (tgtTo st (k + 1) C) (.slice (some ⟨g, 0, none⟩) C.length cap)) := by
        have hT : tgt st x = x := by unfold tgt; rw [if_neg h7, if_neg h8]
        rw [unhide HSk, hT]
        have : inAt (tgtTo st k C) k = x := by rw [unhide HHR k, ← unhide HX]
        rw [← this, set_here]
        exact unhide HR3
      clear hCk HSET HSTP h7 h8 q0 q1 q2 q3 y1 y2 y3 c25 hgf
      go_wp2_with fail
      go_roundw
      case rel => exact ⟨k + 1, by omega, by go_num, unhide HT, unhide HS3, hg3⟩
      case measure => simp [intOf]; omega
end Go.Proofs.YtoepcplbpochpaaDoor

/-
  What leb.Get and lodgeref.Get answer, at every string and place.
-/
namespace Go.Proofs.YtoepcplbpochpaaDoor
open Go.RowKit

theorem ret3 {a a' b b' c : Int} (h : a = a') (h' : b = b') : Ending.returned (.tuple #[.int .i64 a, .int .i64 b, .int .i64 c]) = Ending.returned (.tuple #[.int .i64 a', .int .i64 b', .int .i64 c]) := by rw [h, h']

set_option maxRecDepth 100000 in
set_option maxHeartbeats 1000000 in
theorem get_any (s : ByteArray) (i : Int) (w : World) (hs : s.size ≤ maxLen) (hi : i ≤ 9223372036854775807) :
    Calls Tryd.prog 88 #[.string s, .int .i64 i] w fun e w' => e = .returned (getR s i) ∧ w' = w := by
  unfold maxLen at hs
  by_cases h0 : i < 0
  · rw [getR_neg h0]
    go_enter Tryd.func88, Tryd.ntmps88
    go_wp2
    go_ret3
    exact ⟨rfl, rfl⟩
  obtain ⟨k, rfl⟩ := Int.eq_ofNat_of_zero_le (by omega : 0 ≤ i)
  by_cases hk : k < s.size
  case neg =>
    rw [getR_none (get_out (by omega))]
    go_enter Tryd.func88, Tryd.ntmps88
    go_wp2
    refine wp_loop_rounds 1 ?_; rw [rounds_succ]
    go_wp2
    go_ret3
    exact ⟨rfl, rfl⟩
  have ba : ((s[k]).toNat : Int) < 256 := by have := (s[k]).toNat_lt; omega
  by_cases a : ((s[k]).toNat : Int) < 128
  case pos =>
    rw [getR_some (get_a hk a)]
    go_enter Tryd.func88, Tryd.ntmps88
    go_wp2
    refine wp_loop_rounds 1 ?_; rw [rounds_succ]
    go_wp2
    all_goals go_ret3
    all_goals exact ⟨ret3 (by omega) (by omega), rfl⟩
  by_cases hk1 : k + 1 < s.size
  case neg =>
    rw [getR_none (get_a_end hk a (by omega))]
    go_enter Tryd.func88, Tryd.ntmps88
    go_wp2
    refine wp_loop_rounds 2 ?_; rw [rounds_succ]
    go_wp2
    rw [rounds_succ]
    go_wp2
    all_goals go_ret3
    all_goals exact ⟨rfl, rfl⟩
  have bb : ((s[k + 1]).toNat : Int) < 256 := by have := (s[k + 1]).toNat_lt; omega
  by_cases b : ((s[k + 1]).toNat : Int) < 128
  case pos =>
    by_cases b' : ((s[k + 1]).toNat : Int) = 0
    · rw [getR_none (get_b_zero hk1 a b')]
      go_enter Tryd.func88, Tryd.ntmps88
      go_wp2
      refine wp_loop_rounds 2 ?_; rw [rounds_succ]
      go_wp2
      rw [rounds_succ]
      go_wp2
      all_goals go_ret3
      all_goals exact ⟨rfl, rfl⟩
    · rw [getR_some (get_b hk1 a b b')]
      go_enter Tryd.func88, Tryd.ntmps88
      go_wp2
      refine wp_loop_rounds 2 ?_; rw [rounds_succ]
      go_wp2
      rw [rounds_succ]
      go_wp2
      all_goals go_ret3
      all_goals exact ⟨ret3 (by omega) (by omega), rfl⟩
  by_cases hk2 : k + 1 + 1 < s.size
  case neg =>
    rw [getR_none (get_b_end hk1 a b (by omega))]
    go_enter Tryd.func88, Tryd.ntmps88
    go_wp2
    refine wp_loop_rounds 3 ?_; rw [rounds_succ]
    go_wp2
    rw [rounds_succ]
    go_wp2
    rw [rounds_succ]
    go_wp2
    all_goals go_ret3
    all_goals exact ⟨rfl, rfl⟩
  have bc : ((s[k + 1 + 1]).toNat : Int) < 256 := by have := (s[k + 1 + 1]).toNat_lt; omega
  by_cases c : ((s[k + 1 + 1]).toNat : Int) < 128
  case neg =>
    rw [getR_none (get_c_no hk2 a b c)]
    go_enter Tryd.func88, Tryd.ntmps88
    go_wp2
    refine wp_loop_rounds 4 ?_; rw [rounds_succ]
    go_wp2
    rw [rounds_succ]
    go_wp2
    rw [rounds_succ]
    go_wp2
    rw [rounds_succ]
    go_wp2
    all_goals go_ret3
    all_goals exact ⟨rfl, rfl⟩
  by_cases c' : ((s[k + 1 + 1]).toNat : Int) = 0
  · rw [getR_none (get_c_zero hk2 a b c')]
    go_enter Tryd.func88, Tryd.ntmps88
    go_wp2
    refine wp_loop_rounds 3 ?_; rw [rounds_succ]
    go_wp2
    rw [rounds_succ]
    go_wp2
    rw [rounds_succ]
    go_wp2
    all_goals go_ret3
    all_goals exact ⟨rfl, rfl⟩
  · rw [getR_some (get_c hk2 a b c c')]
    go_enter Tryd.func88, Tryd.ntmps88
    go_wp2
    refine wp_loop_rounds 3 ?_; rw [rounds_succ]
    go_wp2
    rw [rounds_succ]
    go_wp2
    rw [rounds_succ]
    go_wp2
    all_goals go_ret3
    all_goals exact ⟨ret3 (by omega) (by omega), rfl⟩
end Go.Proofs.YtoepcplbpochpaaDoor
