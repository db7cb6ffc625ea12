/-
  The writer in memory, and what putting one instruction leaves behind: (*lodge.writer).put.
-/
import Derived.Test.YtoepcplbpochpaaDoorUnit42
import Derived.Test.YtoepcplbpochpaaDoorUnit17

namespace Go.Proofs.YtoepcplbpochpaaDoor
open Go.RowKit

def In4.cells (x : In4) : List Value := [.int .i64 x.op, .int .i64 x.d, .int .i64 x.a, .int .i64 x.b]
def insCells (l : List In4) : List Value := l.flatMap In4.cells
theorem insCells_len (l : List In4) : (insCells l).length = l.length * 4 := by
  unfold insCells
  induction l with
  | nil => rfl
  | cons r l ih => rw [List.flatMap_cons, List.length_append, ih, List.length_cons]; show 4 + _ = _; omega
theorem insCells_snoc (l : List In4) (r : In4) : insCells (l ++ [r]) = insCells l ++ r.cells := by unfold insCells; rw [List.flatMap_append]; simp

/-- The writer's cells. -/
def wrV (hs : Nat → Bool) (ha : Nat → Nat) (K : Nat) (sv : Value) (st : Nat → Nat) : Nat → Value := fun o => if o < 24 then homV hs ha o else if o = 24 then .int .i64 K else if o = 25 then sv else .int .i64 (st (o - 26))
/-- The writer has written the code C. -/
structure WrB (w : World) (B : Nat) (hs : Nat → Bool) (ha : Nat → Nat) (K : Nat) (st : Nat → Nat) (C : List In4) (sv : Value) : Prop where
  row : Rowd w B 117 66 (wrV hs ha K sv st)
  own : w.ownsRow (B + 1) 77 4 sv C.length (insCells C)
theorem WrB.hs {w : World} {B : Nat} {hs : Nat → Bool} {ha : Nat → Nat} {K : Nat} {st : Nat → Nat} {C : List In4} {sv : Value} (h : WrB w B hs ha K st C sv) {r : Nat} (hr : r < 12) : w.cell? ⟨B, r * 2, none⟩ = some (.bool (hs r)) := by
  rw [h.row.cell (by omega)]; unfold wrV homV; rw [if_pos (by omega), if_pos (by omega), show r * 2 / 2 = r by omega]
theorem WrB.ha {w : World} {B : Nat} {hs : Nat → Bool} {ha : Nat → Nat} {K : Nat} {st : Nat → Nat} {C : List In4} {sv : Value} (h : WrB w B hs ha K st C sv) {r : Nat} (hr : r < 12) : w.cell? ⟨B, r * 2 + 1, none⟩ = some (.int .i64 (ha r)) := by
  rw [h.row.cell (by omega)]; unfold wrV homV; rw [if_pos (by omega), if_neg (by omega), show (r * 2 + 1) / 2 = r by omega]
theorem WrB.k {w : World} {B : Nat} {hs : Nat → Bool} {ha : Nat → Nat} {K : Nat} {st : Nat → Nat} {C : List In4} {sv : Value} (h : WrB w B hs ha K st C sv) : w.cell? ⟨B, 24, none⟩ = some (.int .i64 K) := (h.row.cell (by omega)).trans rfl
theorem WrB.sv {w : World} {B : Nat} {hs : Nat → Bool} {ha : Nat → Nat} {K : Nat} {st : Nat → Nat} {C : List In4} {sv : Value} (h : WrB w B hs ha K st C sv) : w.cell? ⟨B, 25, none⟩ = some sv := (h.row.cell (by omega)).trans rfl
theorem WrB.lt {w : World} {B : Nat} {hs : Nat → Bool} {ha : Nat → Nat} {K : Nat} {st : Nat → Nat} {C : List In4} {sv : Value} (h : WrB w B hs ha K st C sv) : B < w.heap.size := h.row.lt
theorem WrB.keep0 {w w' : World} {B : Nat} {hs : Nat → Bool} {ha : Nat → Nat} {K : Nat} {st : Nat → Nat} {C : List In4} {sv : Value} (h : WrB w B hs ha K st C sv) (hk : Keep (fun _ => False) w w') : WrB w' B hs ha K st C sv :=
  ⟨h.row.keep hk (fun h => h), own_keep h.own hk (fun _ _ h => h)⟩
theorem WrB.below {w w' : World} {B : Nat} {hs : Nat → Bool} {ha : Nat → Nat} {K : Nat} {st : Nat → Nat} {C : List In4} {sv : Value} (h : WrB w B hs ha K st C sv) (hb : Below w.heap.size w w') : WrB w' B hs ha K st C sv := h.keep0 (Keep.of_below hb _)
theorem WrB.drew {w : World} {B : Nat} {hs : Nat → Bool} {ha : Nat → Nat} {K : Nat} {st : Nat → Nat} {C : List In4} {sv : Value} (h : WrB w B hs ha K st C sv) : WrB w.drew B hs ha K st C sv := h.keep0 (Keep.refl _ _).drew

/-- What writing leaves as it was: all but the writer's block and the block of its code; the code moves to new memory alone. -/
structure WrStep (B : Nat) (w : World) (sv : Value) (w' : World) (sv' : Value) : Prop where
  keep : Keep (fun k => k = B ∨ some k = sv.ownBlock) w w'
  fresh : ∀ k, k < w.heap.size → some k ≠ sv.ownBlock → some k ≠ sv'.ownBlock
theorem WrStep.refl (B : Nat) (w : World) (sv : Value) : WrStep B w sv w sv := ⟨Keep.refl _ _, fun _ _ h => h⟩
theorem WrStep.trans {B : Nat} {w w1 w2 : World} {sv sv1 sv2 : Value} (h : WrStep B w sv w1 sv1) (h' : WrStep B w1 sv1 w2 sv2) : WrStep B w sv w2 sv2 := by
  refine ⟨h.keep.trans h'.keep (fun i hi hS => ?_), fun k hk hn => h'.fresh k (Nat.lt_of_lt_of_le hk h.keep.size) (h.fresh k hk hn)⟩
  rcases hS with e | e
  · exact .inl e
  · right
    rcases Classical.em (some i = sv.ownBlock) with h1 | h1
    · exact h1
    · exact absurd e (h.fresh i hi h1)
theorem WrStep.quiet {B : Nat} {w w' : World} {sv : Value} (h : Keep (fun _ => False) w w') : WrStep B w sv w' sv := ⟨h.mono (fun _ _ h => h.elim), fun _ _ h => h⟩
theorem WrStep.below {B : Nat} {w w' : World} {sv : Value} (h : Below w.heap.size w w') : WrStep B w sv w' sv := .quiet (Keep.of_below h _)
theorem WrStep.block {B : Nat} {w w' : World} {sv sv' : Value} (h : WrStep B w sv w' sv') {k : Nat} (hk : k < w.heap.size) (h1 : k ≠ B) (h2 : some k ≠ sv.ownBlock) : w'.heap[k]? = w.heap[k]? := h.keep.block k hk (fun h => h.elim h1 h2)
/-- Below the writer all is as it was. -/
theorem WrStep.under {B : Nat} {w w' : World} {hs : Nat → Bool} {ha : Nat → Nat} {K : Nat} {st : Nat → Nat} {C : List In4} {sv sv' : Value} (h : WrStep B w sv w' sv') (hw : WrB w B hs ha K st C sv) : Below B w w' :=
  h.keep.below (Nat.le_of_lt hw.lt) (fun k hk e => e.elim (fun e => by omega) (fun e => by have := (own_in hw.own k e.symm).1; omega))
/-- A block that lay there ahead of writing is not the code's. -/
theorem WrB.apart {w : World} {B : Nat} {hs : Nat → Bool} {ha : Nat → Nat} {K : Nat} {st : Nat → Nat} {C : List In4} {sv : Value} (h : WrB w B hs ha K st C sv) {k : Nat} (hk : w.heap.size ≤ k) : some k ≠ sv.ownBlock := fun e => by
  have := (own_in h.own k e.symm).2; omega

def PutPost (w : World) (B : Nat) (hs : Nat → Bool) (ha : Nat → Nat) (K : Nat) (st : Nat → Nat) (C : List In4) (sv : Value) (e : Ending) (w' : World) : Prop :=
  e = .returned (.tuple #[]) ∧ ∃ sv', WrB w' B hs ha K st C sv' ∧ WrStep B w sv w' sv'
theorem PutPost.drew {w w' : World} {B : Nat} {hs : Nat → Bool} {ha : Nat → Nat} {K : Nat} {st : Nat → Nat} {C : List In4} {sv : Value} {e : Ending} (h : PutPost w B hs ha K st C sv e w') : PutPost w B hs ha K st C sv e w'.drew := by
  obtain ⟨h1, sv', h2, h3⟩ := h
  exact ⟨h1, sv', h2.drew, h3.trans (.quiet (Keep.refl _ _).drew)⟩

theorem put_post {w w2 wz w3 : World} {B g cap H : Nat} {hs : Nat → Bool} {ha : Nat → Nat} {K : Nat} {st : Nat → Nat} {C : List In4} {sv : Value} {x : In4} (hw : WrB w2 B hs ha K st C sv) (hK2 : Keep (fun _ => False) w w2) (hz : Keep (fun _ => False) w2 wz) (hg : wz.grownBy w3 sv.ownBlock)
    (hat : sv.ownBlock = some g ∨ g = H) (hH : w2.heap.size ≤ H)
    (hown : w3.ownsRow (B + 1) 77 4 (.slice (some ⟨g, 0, none⟩) (C.length + 1) cap) (C.length + 1) (insCells C ++ [.int .i64 x.op, .int .i64 x.d, .int .i64 x.a, .int .i64 x.b])) :
    PutPost w B hs ha K st (C ++ [x]) sv (.returned (.tuple #[])) (w3.setCell ⟨B, 25, none⟩ (.slice (some ⟨g, 0, none⟩) (C.length + 1) cap)) := by
  have hB2 := hw.lt
  have hne : some B ≠ sv.ownBlock := fun e => by have := (own_in hw.own B e.symm).1; omega
  have hbl := grown_block hz hg hne hB2
  have hk3 : Keep (fun k => some k = sv.ownBlock) w2 w3 := (hz.mono (fun _ _ h => h.elim)).grown hg (fun k e _ => e.symm)
  have hkB : Keep (fun k => k = B) w3 (w3.setCell ⟨B, 25, none⟩ (.slice (some ⟨g, 0, none⟩) (C.length + 1) cap)) := keep_set (Keep.refl _ _) _ _
  refine ⟨rfl, .slice (some ⟨g, 0, none⟩) (C.length + 1) cap, ⟨?_, ?_⟩, ⟨?_, ?_⟩⟩
  · refine ((hw.row.of_block hbl).set 25 _).congr (fun o ho => ?_)
    unfold wrV
    by_cases e : o = 25
    · subst e; rw [if_pos rfl, if_neg (by omega), if_neg (by omega), if_pos rfl]
    · rw [if_neg e, if_neg e, if_neg e]
  · rw [List.length_append, insCells_snoc]
    exact own_keep hown hkB (fun k hk e => by have := (own_in hown k hk).1; omega)
  · exact ((hK2.mono (T := fun k => k = B ∨ some k = sv.ownBlock) (fun _ _ h => h.elim)).trans hk3 (fun _ _ h => .inr h)).trans hkB (fun _ _ h => .inl h)
  · intro k hk hn e
    have e' : some k = some g := e
    injection e' with e'
    subst e'
    have := hK2.size
    rcases hat with h | h
    · exact hn h.symm
    · omega

theorem Tryd.info77 : (Tryd.prog.info? 77).map (fun i => (i.zero, i.size, i.bytes)) = some (some (.agg #[.int .i64 0, .int .i64 0, .int .i64 0, .int .i64 0]), 4, 32) := by kernel_rfl
set_option maxRecDepth 100000 in
set_option maxHeartbeats 4000000 in
theorem put1_any (B : Nat) (hs : Nat → Bool) (ha : Nat → Nat) (K : Nat) (st : Nat → Nat) (C : List In4) (sv : Value) (x : In4) (w : World) (h : WrB w B hs ha K st C sv) (hl : C.length ≤ 1000) :
    Calls Tryd.prog 126 #[.pointer (some ⟨B, 0, none⟩), .agg #[.int .i64 x.op, .int .i64 x.d, .int .i64 x.a, .int .i64 x.b]] w (PutPost w B hs ha K st (C ++ [x]) sv) := by
  have hB := h.lt
  have HI := hide h
  clear h
  obtain ⟨w2, hw2, hq, HB2, hZ⟩ := box4 w x
  have HW := hide hw2
  have HK2 : Hid (Keep (fun _ => False) w w2) := Keep.of_below (unhide HB2) _
  have HI2 := hide ((unhide HI).below (unhide HB2))
  have c25 : w2.cell? ⟨B, 25, none⟩ = some sv := (unhide HI2).sv
  have hf2 : ∀ o, w2.frozen? ⟨B, o, none⟩ = false := (unhide HI2).row.free
  have hB2 : B < w2.heap.size := (unhide HI2).lt
  have HO := hide (unhide HI2).own
  have HN : Hid (some B ≠ sv.ownBlock) := fun e => by have := (own_in (unhide HO) B e.symm).1; omega
  obtain ⟨q0, q1, q2, q3⟩ := hq
  obtain ⟨i0, hi, hz0, hz1, hz2'⟩ := info_parts Tryd.info77
  clear hw2
  go_enter Tryd.func126, Tryd.ntmps126
  go_wp2_with fail
  rw [← unhide HW]
  go_wp2_with fail
  go_region_law ((refine step_append_lies _ (by rfl) _ _ _ (by rfl) (B + 1) 77 i0 _ 4 32 Tryd.underlying22 hi hz0 hz1 hz2' rfl (by omega) sv C.length (insCells C) (by rfl) (own_keep (unhide HO) (S := fun _ => False) (by repeat first | exact Keep.refl _ _ | refine Keep.drew ?_ | refine Keep.alloc ?_ _) (fun _ _ h => h)) ⟨w2.heap.size, 0, none⟩ 1 1 [.int .i64 x.op, .int .i64 x.d, .int .i64 x.a, .int .i64 x.b] (by rfl) (by rfl) (World.news_of_block (cs := #[.int .i64 x.op, .int .i64 x.d, .int .i64 x.a, .int .i64 x.b]) (t := 77) (fr := (0, 0)) (heap_alloc_new _ _)) (by simp [Value.oneCell']) (by omega) (by unfold maxLen; omega) (by omega) (by simp; omega) (w2.heap.size + 1) (by simp) ?_; intro g cap w3 hown3 hgrow hat3 hlt3; have HBL := hide (grown_block (a := w2) (by repeat first | exact Keep.refl _ _ | refine Keep.drew ?_ | refine Keep.alloc ?_ _) hgrow (unhide HN) hB2); have b25 : w3.cell? ⟨B, 25, none⟩ = some sv := (World.cell?_of_block (unhide HBL)).trans c25; have bf : w3.frozen? ⟨B, 25, none⟩ = false := (World.frozen?_of_block (unhide HBL)).trans (hf2 25)))
  all_goals go_wp2_with fail
  all_goals go_returns
  all_goals
    have hP := put_post (x := x) (H := w2.heap.size + 1) (unhide HI2) (unhide HK2) (by repeat first | exact Keep.refl _ _ | refine Keep.drew ?_ | refine Keep.alloc ?_ _) hgrow hat3 (by omega) hown3
    first | exact hP | exact hP.drew | exact hP.drew.drew
end Go.Proofs.YtoepcplbpochpaaDoor

/-
  Between a register and its home: (*lodge.writer).spare, goal, keep, fetch.
-/
namespace Go.Proofs.YtoepcplbpochpaaDoor
open Go.RowKit

/-- The register of the machine that holds the program's r; what brings it there. -/
def fetR (hs : Nat → Bool) (ha : Nat → Nat) (K : Nat) (r n : Nat) : Int := if hs r = true then (K : Int) - 2 + n else ha r
def fetC (hs : Nat → Bool) (ha : Nat → Nat) (K : Nat) (r n : Nat) : List In4 := if hs r = true then [⟨15, (K : Int) - 2 + n, ha r, 0⟩] else []
/-- The register of the machine that is written where the program writes r; what brings it home. -/
def goalR (hs : Nat → Bool) (ha : Nat → Nat) (K : Nat) (r : Nat) : Int := if hs r = true then (K : Int) - 2 else ha r
def keepC (hs : Nat → Bool) (ha : Nat → Nat) (K : Nat) (r : Nat) : List In4 := if hs r = true then [⟨16, ha r, (K : Int) - 2, 0⟩] else []

def WPost (w : World) (B : Nat) (hs : Nat → Bool) (ha : Nat → Nat) (K : Nat) (st : Nat → Nat) (C : List In4) (sv : Value) (v : Value) (e : Ending) (w' : World) : Prop :=
  e = .returned v ∧ ∃ sv', WrB w' B hs ha K st C sv' ∧ WrStep B w sv w' sv'

set_option maxRecDepth 100000 in
set_option maxHeartbeats 4000000 in
theorem spare_any (B : Nat) (hs : Nat → Bool) (ha : Nat → Nat) (K : Nat) (st : Nat → Nat) (C : List In4) (sv : Value) (n : Nat) (w : World) (h : WrB w B hs ha K st C sv) (hK : 2 ≤ K) (hK' : K ≤ 16) (hn : n ≤ 1) :
    Calls Tryd.prog 138 #[.pointer (some ⟨B, 0, none⟩), .int .i64 n] w fun e w' => e = .returned (.int .i64 ((K : Int) - 2 + n)) ∧ w' = w := by
  have c := h.k
  clear h
  go_enter Tryd.func138, Tryd.ntmps138
  go_wp2
  go_ret
  exact ⟨ret_int (by go_num), rfl⟩

/-- A home that was boxed. -/
theorem box2 (w : World) (s : Bool) (a : Int) : ∃ w2, w2 = w.alloc (.cells #[.bool s, .int .i64 a] 111) ∧ w2.cell? ⟨w.heap.size, 0, none⟩ = some (.bool s) ∧ w2.cell? ⟨w.heap.size, 1, none⟩ = some (.int .i64 a) ∧ Hid (Below w.heap.size w w2) ∧ w.heap.size < w2.heap.size := by
  have q : ∀ i, (w.alloc (.cells #[.bool s, .int .i64 a] 111)).cell? ⟨w.heap.size, i, none⟩ = #[Value.bool s, .int .i64 a][i]? := fun i => World.cell?_alloc_at (hn := rfl) ..
  exact ⟨_, rfl, (q 0).trans rfl, (q 1).trans rfl, (Below.refl _ _).alloc (Nat.le_refl _) _, by simp⟩

set_option maxRecDepth 100000 in
set_option maxHeartbeats 4000000 in
theorem goal_any (B : Nat) (hs : Nat → Bool) (ha : Nat → Nat) (K : Nat) (st : Nat → Nat) (C : List In4) (sv : Value) (r : Nat) (w : World) (h : WrB w B hs ha K st C sv) (hK : 2 ≤ K) (hK' : K ≤ 16) (hr : r < 12) :
    Calls Tryd.prog 127 #[.pointer (some ⟨B, 0, none⟩), .int .i64 r] w fun e w' => e = .returned (.int .i64 (goalR hs ha K r)) ∧ Below w.heap.size w w' := by
  have c0 := h.hs hr
  have c1 := h.ha hr
  have hri : (r : Int) < 12 := by omega
  have HG := hide (show goalR hs ha K r = if hs r = true then (K : Int) - 2 else ha r from rfl)
  obtain ⟨s, hs'⟩ : ∃ s, s = hs r := ⟨_, rfl⟩
  rw [← hs'] at c0 HG
  clear hs'
  obtain ⟨w2, hw2, q0, q1, HB2, hz2⟩ := box2 w s (ha r)
  have HW := hide hw2
  have KS := hide (spare_any B hs ha K st C sv 0 w2 (h.below (unhide HB2)) hK hK' (by omega))
  clear hw2 h
  cases s
  · rw [if_neg (by decide)] at HG
    go_enter Tryd.func127, Tryd.ntmps127
    go_upto_region 2 with fail
    rw [← unhide HW]
    go_wp2_with fail
    go_ret
    exact ⟨ret_int (unhide HG).symm, unhide HB2⟩
  · rw [if_pos rfl] at HG
    go_enter Tryd.func127, Tryd.ntmps127
    go_upto_region 2 with fail
    rw [← unhide HW]
    go_wp2_with (go_at_call 138; refine (unhide KS).mono ?_; rintro e w3 ⟨rfl, rfl⟩)
    go_ret
    exact ⟨ret_int (by rw [unhide HG]; try simp), unhide HB2⟩

set_option maxRecDepth 100000 in
set_option maxHeartbeats 4000000 in
theorem keep_any (B : Nat) (hs : Nat → Bool) (ha : Nat → Nat) (K : Nat) (st : Nat → Nat) (C : List In4) (sv : Value) (r : Nat) (w : World) (h : WrB w B hs ha K st C sv) (hK : 2 ≤ K) (hK' : K ≤ 16) (hr : r < 12) (hl : C.length ≤ 1000) :
    Calls Tryd.prog 128 #[.pointer (some ⟨B, 0, none⟩), .int .i64 r] w (WPost w B hs ha K st (C ++ keepC hs ha K r) sv (.tuple #[])) := by
  have c0 := h.hs hr
  have c1 := h.ha hr
  have hri : (r : Int) < 12 := by omega
  have HG := hide (show keepC hs ha K r = if hs r = true then [⟨16, ha r, (K : Int) - 2, 0⟩] else [] from rfl)
  obtain ⟨s, hs'⟩ : ∃ s, s = hs r := ⟨_, rfl⟩
  rw [← hs'] at c0 HG
  clear hs'
  obtain ⟨w2, hw2, q0, q1, HB2, hz2⟩ := box2 w s (ha r)
  have HW := hide hw2
  have HI2 := hide (h.below (unhide HB2))
  have KS := hide (spare_any B hs ha K st C sv 0 w2 (unhide HI2) hK hK' (by omega))
  have KP := hide (put1_any B hs ha K st C sv ⟨16, ha r, (K : Int) - 2, 0⟩ w2 (unhide HI2) hl)
  simp only at KP
  clear hw2 h
  cases s
  · rw [if_neg (by decide)] at HG
    go_enter Tryd.func128, Tryd.ntmps128
    go_upto_region 1 with fail
    rw [← unhide HW]
    go_wp2_with fail
    go_returns
    exact ⟨rfl, sv, by rw [unhide HG, List.append_nil]; exact unhide HI2, .below (unhide HB2)⟩
  · rw [if_pos rfl] at HG
    go_enter Tryd.func128, Tryd.ntmps128
    go_upto_region 1 with fail
    rw [← unhide HW]
    have e0 : (K : Int) - 2 + ((0 : Nat) : Int) = (K : Int) - 2 := by omega
    rw [e0] at KS
    clear e0
    go_wp2_with (go_at_call 138; refine (unhide KS).mono ?_; rintro e w3 ⟨rfl, rfl⟩)
    refine (unhide KP).mono ?_
    rintro e w4 ⟨rfl, sv', h4, h5⟩
    have HP : Hid (WPost w B hs ha K st (C ++ keepC hs ha K r) sv (.tuple #[]) (.returned (.tuple #[])) w4) := ⟨rfl, sv', by rw [unhide HG]; exact h4, (WrStep.below (unhide HB2)).trans h5⟩
    clear h4 h5
    go_wp2_with fail
    go_returns
    exact unhide HP

set_option maxRecDepth 100000 in
set_option maxHeartbeats 4000000 in
theorem fetch_any (B : Nat) (hs : Nat → Bool) (ha : Nat → Nat) (K : Nat) (st : Nat → Nat) (C : List In4) (sv : Value) (r n : Nat) (w : World) (h : WrB w B hs ha K st C sv) (hK : 2 ≤ K) (hK' : K ≤ 16) (hr : r < 12) (hn : n ≤ 1) (hl : C.length ≤ 1000) :
    Calls Tryd.prog 130 #[.pointer (some ⟨B, 0, none⟩), .int .i64 r, .int .i64 n] w (WPost w B hs ha K st (C ++ fetC hs ha K r n) sv (.int .i64 (fetR hs ha K r n))) := by
  have c0 := h.hs hr
  have c1 := h.ha hr
  have hri : (r : Int) < 12 := by omega
  have HG := hide (show fetC hs ha K r n = if hs r = true then [⟨15, (K : Int) - 2 + n, ha r, 0⟩] else [] from rfl)
  have HR := hide (show fetR hs ha K r n = if hs r = true then (K : Int) - 2 + n else ha r from rfl)
  obtain ⟨s, hs'⟩ : ∃ s, s = hs r := ⟨_, rfl⟩
  rw [← hs'] at c0 HG HR
  clear hs'
  obtain ⟨w2, hw2, q0, q1, HB2, hz2⟩ := box2 w s (ha r)
  have HW := hide hw2
  have HI2 := hide (h.below (unhide HB2))
  have KS := hide (spare_any B hs ha K st C sv n w2 (unhide HI2) hK hK' hn)
  obtain ⟨y, hy⟩ : ∃ y, y = (K : Int) - 2 + n := ⟨_, rfl⟩
  have KP := hide (put1_any B hs ha K st C sv ⟨15, y, ha r, 0⟩ w2 (unhide HI2) hl)
  simp only at KP
  rw [← hy] at KS HG HR
  clear hw2 h hy
  cases s
  · rw [if_neg (by decide)] at HG HR
    go_enter Tryd.func130, Tryd.ntmps130
    go_upto_region 2 with fail
    rw [← unhide HW]
    go_wp2_with fail
    go_ret
    exact ⟨ret_int (unhide HR).symm, sv, by rw [unhide HG, List.append_nil]; exact unhide HI2, .below (unhide HB2)⟩
  · rw [if_pos rfl] at HG HR
    go_enter Tryd.func130, Tryd.ntmps130
    go_upto_region 2 with fail
    rw [← unhide HW]
    go_wp2_with (go_at_call 138; refine (unhide KS).mono ?_; rintro e w3 ⟨rfl, rfl⟩)
    refine (unhide KP).mono ?_
    rintro e w4 ⟨rfl, sv', h4, h5⟩
    have HP : Hid (WPost w B hs ha K st (C ++ fetC hs ha K r n) sv (.int .i64 (fetR hs ha K r n)) (.returned (.int .i64 y)) w4) := ⟨ret_int (unhide HR).symm, sv', by rw [unhide HG]; exact h4, (WrStep.below (unhide HB2)).trans h5⟩
    clear h4 h5
    go_wp2_with fail
    go_ret
    exact unhide HP
end Go.Proofs.YtoepcplbpochpaaDoor
