/-
  Plain mathematics: a program with more instructions ahead of it, whose Binds, Ties and Frees have become Stops.
-/
import Derived.Test.YtoepcplbpochpabDoorPart21
import Derived.Test.YtoepcplbpochpabDoorPart22
import Derived.Test.YtoepcplbpochpabDoorPart24

namespace Go.Proofs.YtoepcplbpochpabDoor
open Go.RowKit

/-- What becomes of the instruction at the place i. -/
def grX (by' own : Int) (i : Nat) (x : In4) : In4 :=
  if x.op = 7 then ⟨x.op, x.d, x.a + by', x.b⟩ else if x.op = 8 then ⟨x.op, x.d, x.a, x.b + by'⟩ else
  if x.op = 10 then (if 0 ≤ own then ⟨x.op, x.d, own, x.b⟩ else x) else if x.op = 12 ∨ x.op = 13 ∨ x.op = 14 then ⟨11, 0, i, 0⟩ else x
def grTo (by' own : Int) (L : List In4) : Nat → List In4
  | 0 => []
  | k + 1 => grTo by' own L k ++ [grX by' own k (inAt L k)]
theorem grTo_len (by' own : Int) (L : List In4) : ∀ k, (grTo by' own L k).length = k
  | 0 => rfl
  | k + 1 => by show (grTo by' own L k ++ [_]).length = _; rw [List.length_append, grTo_len by' own L k]; rfl
theorem grTo_at (by' own : Int) (L : List In4) : ∀ k i, i < k → inAt (grTo by' own L k) i = grX by' own i (inAt L i)
  | 0, _, h => absurd h (Nat.not_lt_zero _)
  | k + 1, i, h => by
    have hl := grTo_len by' own L k
    show inAt (grTo by' own L k ++ [_]) i = _
    by_cases e : i < k
    · rw [inAt_left (by omega)]; exact grTo_at by' own L k i e
    · obtain rfl : i = k := by omega
      have := inAt_right (grTo by' own L i) [grX by' own i (inAt L i)] 0
      rw [hl, Nat.add_zero] at this
      exact this
/-- The grown program's code. -/
def grL (F : List In4) (own : Int) (L : List In4) : List In4 := F ++ grTo F.length own L L.length
theorem grL_len (F : List In4) (own : Int) (L : List In4) : (grL F own L).length = F.length + L.length := by unfold grL; rw [List.length_append, grTo_len]
theorem grL_first {F : List In4} {own : Int} {L : List In4} {i : Nat} (h : i < F.length) : inAt (grL F own L) i = inAt F i := inAt_left h
theorem grL_rest {F : List In4} {own : Int} {L : List In4} {i : Nat} (h : i < L.length) : inAt (grL F own L) (F.length + i) = grX F.length own i (inAt L i) := by
  unfold grL; rw [inAt_right, grTo_at _ _ _ _ _ h]
/-- What its instructions keep to. -/
theorem grX_right {R n V R' : Int} {m : Nat} {own : Int} {i : Nat} {x : In4} (hx : Right R n V x) (hl : x.op ≤ 14) (hi : (i : Int) ≤ 99) (hR : R ≤ R') (_hm : (m : Int) = 1 ∨ (m : Int) = 2) (ho : own < R') : Right R' (m + n) 1 (grX m own i x) ∧ (grX m own i x).op ≤ 11 := by
  obtain ⟨o0, o16, rD, rA, rB, rC, rJ, rI, rS, rV, rL, rT⟩ := hx
  unfold grX
  by_cases h7 : x.op = 7
  · rw [if_pos h7]
    have := rJ h7
    refine ⟨⟨?_, ?_, ?_, ?_, ?_, ?_, ?_, ?_, ?_, ?_, ?_, ?_⟩, ?_⟩ <;> simp only <;> omega
  rw [if_neg h7]
  by_cases h8 : x.op = 8
  · rw [if_pos h8]
    have := rI h8
    have := rA (by omega)
    refine ⟨⟨?_, ?_, ?_, ?_, ?_, ?_, ?_, ?_, ?_, ?_, ?_, ?_⟩, ?_⟩ <;> simp only <;> omega
  rw [if_neg h8]
  by_cases h10 : x.op = 10
  · rw [if_pos h10]
    have := rA (by omega)
    split
    · refine ⟨⟨?_, ?_, ?_, ?_, ?_, ?_, ?_, ?_, ?_, ?_, ?_, ?_⟩, ?_⟩ <;> simp only <;> omega
    · refine ⟨⟨?_, ?_, ?_, ?_, ?_, ?_, ?_, ?_, ?_, ?_, ?_, ?_⟩, ?_⟩ <;> omega
  rw [if_neg h10]
  by_cases h12 : x.op = 12 ∨ x.op = 13 ∨ x.op = 14
  · rw [if_pos h12]
    refine ⟨⟨?_, ?_, ?_, ?_, ?_, ?_, ?_, ?_, ?_, ?_, ?_, ?_⟩, ?_⟩ <;> simp only <;> omega
  rw [if_neg h12]
  refine ⟨⟨o0, o16, fun h => ?_, fun h => ?_, fun h => ?_, fun h => rC h, fun h => absurd h h7, fun h => absurd h h8, rS, fun h => ?_, fun h => ?_, fun h => ?_⟩, by omega⟩
  · have := rD h; omega
  · have := rA h; omega
  · have := rB h; omega
  · omega
  · omega
  · omega
theorem grX_end {m : Nat} {own : Int} {i : Nat} {x : In4} (h : x.op = 7 ∨ x.op = 10) : (grX m own i x).op = 7 ∨ (grX m own i x).op = 10 := by
  unfold grX
  by_cases h7 : x.op = 7
  · rw [if_pos h7]; exact .inl h7
  · have h10 : x.op = 10 := h.resolve_left h7
    rw [if_neg h7, if_neg (by omega), if_pos h10]
    split
    · exact .inr h10
    · exact .inr h10
/-- It is right. -/
theorem grown_right {P R V R' own : Int} {L F : List In4} (hp : RightP P R V L) (hF : (F.length : Int) = 1 ∨ (F.length : Int) = 2) (hn : F.length + L.length ≤ 40) (hR : R ≤ R') (hR' : R' ≤ 12) (ho : own < R') (hf : ∀ i, i < F.length → Right R' ((F.length + L.length : Nat) : Int) 1 (inAt F i) ∧ (inAt F i).op ≤ 14) : RightP P R' 1 (grL F own L) := by
  have hl := grL_len F own L
  have n1 := hp.n1
  have n40 := hp.n40
  refine right_prog (by have := hp.r1; omega) hR' hp.p0 hp.p4 (by have := hp.pr; omega) (by omega) (by omega) (by omega) (by omega) (fun i hi => ?_) ?_
  · rw [hl] at hi ⊢
    by_cases e : i < F.length
    · rw [grL_first e]; exact hf i e
    · obtain ⟨j, rfl⟩ : ∃ j, i = F.length + j := ⟨i - F.length, by omega⟩
      have hj : j < L.length := by omega
      rw [grL_rest hj]
      have := grX_right (m := F.length) (own := own) (i := j) (R' := R') (hp.ins j hj) (hp.low j hj) (by omega) hR hF ho
      rw [show ((F.length + L.length : Nat) : Int) = (F.length : Int) + (L.length : Int) by omega]
      exact ⟨this.1, by omega⟩
  · rw [hl, show F.length + L.length - 1 = F.length + (L.length - 1) by omega, grL_rest (by omega)]
    exact grX_end hp.last
/-- Behind the first instructions nothing is said of variables. -/
theorem grown_calm {P R V : Int} {L F : List In4} {own : Int} (hp : RightP P R V L) (hF : (F.length : Int) = 1 ∨ (F.length : Int) = 2) {j : Nat} (hj : j < L.length) : (inAt (grL F own L) (F.length + j)).op ≤ 11 := by
  rw [grL_rest hj]
  have n40 := hp.n40
  by_cases ho : own < R
  · exact (grX_right (m := F.length) (own := own) (i := j) (R' := R) (hp.ins j hj) (hp.low j hj) (by omega) (Int.le_refl _) hF ho).2
  · exact (grX_right (m := F.length) (own := own) (i := j) (R' := own + 1) (hp.ins j hj) (hp.low j hj) (by omega) (by omega) hF (by omega)).2
end Go.Proofs.YtoepcplbpochpabDoor

/-
  A program with more instructions ahead of it: lodgekeep.grown; what a run tells at each Stop: lodgekeep.every.
-/
namespace Go.Proofs.YtoepcplbpochpabDoor
open Go.RowKit

theorem Tryd.infoGr : (Tryd.prog.info? 31).map (fun i => (i.zero, i.size, i.bytes)) = some (some (.agg #[.int .i64 0, .int .i64 0, .int .i64 0, .int .i64 0]), 4, 32) := by kernel_rfl
/-- What stands in memory while the grown program is written. -/
structure GrB (w wr : World) (A : Obj) (P R : Int) (C : List In4) (sv : Value) : Prop where
  box : wr.heap[w.heap.size]? = some A
  q : wr.heap[w.heap.size + 2]? = some (.cells #[.int .i64 P, .int .i64 R, .int .i64 1, sv] 24 (0, 0))
  res : wr.heap[w.heap.size + 1]? = some (.cells #[.int .i64 0, .int .i64 0, .int .i64 0, .slice none 0 0] 24 (0, 0))
  own : wr.ownsRow (w.heap.size + 3) 31 4 sv C.length (insCells C)
  bel : Below w.heap.size w wr
  size : w.heap.size + 3 ≤ wr.heap.size
theorem GrB.below {w wr w' : World} {A : Obj} {P R : Int} {C : List In4} {sv : Value} (h : GrB w wr A P R C sv) (hb : Below wr.heap.size wr w') : GrB w w' A P R C sv := by
  have hs := h.size
  exact ⟨(hb.block _ (by omega)).trans h.box, (hb.block _ (by omega)).trans h.q, (hb.block _ (by omega)).trans h.res, own_keep h.own (Keep.of_below hb (fun _ => False)) (fun _ _ h => h), h.bel.trans (hb.mono (by omega)), by have := hb.size; omega⟩
theorem GrB.aside {w wr w' : World} {A : Obj} {P R : Int} {C : List In4} {sv : Value} (h : GrB w wr A P R C sv) {g : Nat} (hk : Keep (fun j => j = g) wr w') (hg : w.heap.size + 3 ≤ g) (hs : ∀ k, sv.ownBlock = some k → k ≠ g) : GrB w w' A P R C sv := by
  have hz := h.size
  exact ⟨(hk.block _ (by omega) (by omega)).trans h.box, (hk.block _ (by omega) (by omega)).trans h.q, (hk.block _ (by omega) (by omega)).trans h.res, own_keep h.own hk hs, h.bel.trans (hk.below (by omega) (fun k hk e => by omega)), by have := hk.size; omega⟩
theorem gr_put {w wr wz w5 : World} {A : Obj} {P R : Int} {C C' : List In4} {sv v' : Value} (h : GrB w wr A P R C sv) (hz : Keep (fun _ => False) wr wz) (hg : wz.grownBy w5 sv.ownBlock)
    (hown : w5.ownsRow (w.heap.size + 3) 31 4 v' C'.length (insCells C')) : GrB w (w5.setCell ⟨w.heap.size + 2, 3, none⟩ v') A P R C' v' := by
  have hs := h.size
  have hb : ∀ k, k < w.heap.size + 3 → w5.heap[k]? = wr.heap[k]? := fun k hk => grown_block hz hg (fun e => by have := (own_in h.own k e.symm).1; omega) (by omega)
  have hk3 : Keep (fun k => w.heap.size + 3 ≤ k) wr w5 := (hz.mono (fun _ _ h => h.elim)).grown hg (fun k e _ => (own_in h.own k e).1)
  have hkB : Keep (fun k => k = w.heap.size + 2) w5 (w5.setCell ⟨w.heap.size + 2, 3, none⟩ v') := keep_set (Keep.refl _ _) _ _
  have hz3 := hk3.size
  refine ⟨(hkB.block _ (by omega) (by omega)).trans ((hb _ (by omega)).trans h.box), ?_, (hkB.block _ (by omega) (by omega)).trans ((hb _ (by omega)).trans h.res), ?_, ?_, ?_⟩
  · exact (heap_setCell_same w5 (w.heap.size + 2) 3 _ 24 v' ((hb _ (by omega)).trans h.q)).trans rfl
  · exact own_keep hown hkB (fun k hk e => by have := (own_in hown k hk).1; omega)
  · exact (h.bel.trans (hk3.below (by omega) (fun k hk e => by omega))).trans (hkB.below (by have := h.bel.size; omega) (fun k hk e => by omega))
  · have := hkB.size; omega
theorem lie_cells {w : World} {b off : Nat} {F : List In4} (h : LieI w b off F) : ∀ j u, (insCells F)[j]? = some u → w.cell? ((⟨b, off, none⟩ : Addr).add j) = some u := fun j u hu => by
  have hl := insCells_len F
  have hj : j < (insCells F).length := (List.getElem?_eq_some_iff.1 hu).1
  have ha : (⟨b, off, none⟩ : Addr).add j = ⟨b, off + j, none⟩ := by unfold Addr.add; split <;> simp_all
  have hi : j / 4 < F.length := by omega
  have e : j = j / 4 * 4 + j % 4 := by omega
  have hm := Nat.mod_lt j (show 0 < 4 by decide)
  rw [e, insCells_at F (j / 4) (j % 4) hi hm] at hu
  obtain ⟨h0, h1, h2, h3⟩ := h (j / 4) hi
  rw [ha, e]
  rcases (show j % 4 = 0 ∨ j % 4 = 1 ∨ j % 4 = 2 ∨ j % 4 = 3 by omega) with r | r | r | r <;> rw [r] at hu ⊢
  · rw [show off + (j / 4 * 4 + 0) = off + j / 4 * 4 by omega, h0]; exact hu
  · rw [show off + (j / 4 * 4 + 1) = off + j / 4 * 4 + 1 by omega, h1]; exact hu
  · rw [show off + (j / 4 * 4 + 2) = off + j / 4 * 4 + 2 by omega, h2]; exact hu
  · rw [show off + (j / 4 * 4 + 3) = off + j / 4 * 4 + 3 by omega, h3]; exact hu
theorem insCells_one1 (l : List In4) : ∀ v ∈ insCells l, v.oneCell' = true := by
  intro v hv
  unfold insCells at hv
  obtain ⟨x, _, hx⟩ := List.mem_flatMap.1 hv
  simp only [In4.cells, List.mem_cons, List.not_mem_nil, or_false] at hx
  rcases hx with rfl | rfl | rfl | rfl <;> rfl
theorem LieI.below' {w w' : World} {b off : Nat} {L : List In4} (h : LieI w b off L) (hb : Below w.heap.size w w') (hB : b < w.heap.size) : LieI w' b off L := h.below hb hB
/-- What grown leaves behind. -/
def GrownPost (w : World) (P R' : Nat) (C : List In4) (e : Ending) (w' : World) : Prop :=
  ∃ (ao : Option Addr) (cap : Nat), e = .returned (.agg #[.int .i64 P, .int .i64 R', .int .i64 1, .slice ao C.length cap]) ∧ w'.ownsRow w.heap.size 31 4 (.slice ao C.length cap) C.length (insCells C) ∧ Below w.heap.size w w'
theorem gr_end {w wr : World} {A : Obj} {P R : Nat} {C : List In4} {so : Option Addr} {sn sc : Nat} (h : GrB w wr A P R C (.slice so sn sc)) (v0 v1 v2 v3 : Value) :
    GrownPost w P R C (.returned (.agg #[.int .i64 P, .int .i64 R, .int .i64 1, .slice so sn sc])) ((((wr.setCell ⟨w.heap.size + 1, 0, none⟩ v0).setCell ⟨w.heap.size + 1, 1, none⟩ v1).setCell ⟨w.heap.size + 1, 2, none⟩ v2).setCell ⟨w.heap.size + 1, 3, none⟩ v3) := by
  have hk : Keep (fun j => j = w.heap.size + 1) wr ((((wr.setCell ⟨w.heap.size + 1, 0, none⟩ v0).setCell ⟨w.heap.size + 1, 1, none⟩ v1).setCell ⟨w.heap.size + 1, 2, none⟩ v2).setCell ⟨w.heap.size + 1, 3, none⟩ v3) := keep_set (keep_set (keep_set (keep_set (Keep.refl _ _) _ _) _ _) _ _) _ _
  have hs := h.size
  obtain rfl := own_len h.own
  exact ⟨so, sc, rfl, own_weaken (own_keep h.own hk (fun k hk e => by have := (own_in h.own k hk).1; omega)) (by omega), h.bel.trans (hk.below (by omega) (fun k hk e => by omega))⟩
theorem gr_start (w : World) (P R : Int) (A : Obj) : ∃ w3, w3 = ((w.alloc A).alloc (.cells #[.int .i64 0, .int .i64 0, .int .i64 0, .slice none 0 0] 24)).alloc (.cells #[.int .i64 P, .int .i64 R, .int .i64 1, .slice none 0 0] 24) ∧ Hid (GrB w w3 A P R [] (.slice none 0 0)) := by
  refine ⟨_, rfl, ⟨?_, ?_, heap_mid w _ _ _, World.ownsRow_nil _ _ _ _, below_three w _ _ _, by simp⟩⟩
  rotate_left
  · have := heap_alloc_new ((w.alloc A).alloc (.cells #[.int .i64 0, .int .i64 0, .int .i64 0, .slice none 0 0] 24)) (.cells #[.int .i64 P, .int .i64 R, .int .i64 1, .slice none 0 0] 24)
    simpa using this
  · have h1 : (((w.alloc A).alloc (.cells #[.int .i64 0, .int .i64 0, .int .i64 0, .slice none 0 0] 24)).alloc (.cells #[.int .i64 P, .int .i64 R, .int .i64 1, .slice none 0 0] 24)).heap[w.heap.size]? = ((w.alloc A).alloc (.cells #[.int .i64 0, .int .i64 0, .int .i64 0, .slice none 0 0] 24)).heap[w.heap.size]? := heap_alloc_old _ _ (by simp; omega)
    rw [h1]; exact heap_alloc2_old w A _

set_option maxRecDepth 100000 in
set_option maxHeartbeats 8000000 in
theorem grown_any (P R V : Nat) (L F : List In4) (own : Int) (R' : Nat) (ac fa : Option Addr) (cc fc : Nat) (w : World) (hp : RightP P R V L) (hH : HeldIns w ac L) (hF : HeldIns w fa F) (hF1 : 1 ≤ F.length) (hF2 : F.length ≤ 2) (hown : (own = -1 ∧ R' = R) ∨ (own = (R : Int) ∧ R' = R + 1)) :
    Calls Tryd.prog 11 #[.agg #[.int .i64 P, .int .i64 R, .int .i64 V, .slice ac L.length cc], .slice fa F.length fc, .int .i64 own] w (GrownPost w P R' (grL F own L)) := by
  have hn40 := hp.n40
  have hr12 := hp.r12
  have HH := hide hH
  obtain ⟨fb, fo, rfl, hfb, hfI⟩ : ∃ b off, fa = some ⟨b, off, none⟩ ∧ b < w.heap.size ∧ LieI w b off F := by
    rcases hF with h | h
    · subst h; exact absurd hF1 (by decide)
    · exact h
  have HFI := hide hfI
  obtain ⟨i0, hi, hz0, hz1, hz2⟩ := info_parts Tryd.infoGr
  obtain ⟨w3, hw3, HB3⟩ := gr_start w P R' (.cells #[.int .i64 P, .int .i64 R, .int .i64 V, .slice ac L.length cc] 24)
  have HW3 := hide hw3
  have HIN := hide (fun j (hj : j < L.length) => hp.ins j hj)
  have HLW := hide (fun j (hj : j < L.length) => hp.low j hj)
  clear hw3 hH hF hfI hp
  go_enter Tryd.func11, Tryd.ntmps11
  go_upto_if 17 with fail
  go_cut [] from 16 to 20 (fun wc => wc = w3)
  case first =>
    rcases hown with ⟨e, e'⟩ | ⟨e, e'⟩
    · subst e e'
      go_wp2_with fail
      go_meet
      case rel => rw [unhide HW3]
    · subst e e'
      have c1 : (0 : Int) ≤ (R : Int) := by omega
      have w1 : IntKind.i64.wrap ((R : Int) + 1) = (R : Int) + 1 := by rw [IntKind.wrap_i64]; omega
      go_wp2_with fail
      go_meet
      case rel => rw [unhide HW3]; rfl
  case rest =>
  rw [hcut]
  clear hcut
  have hBs := (unhide HB3).size
  have q3 : w3.cell? ⟨w.heap.size + 1 + 1, 3, none⟩ = some (.slice none 0 0) := (cell_of_row w3 _ 3 _ 24 (0, 0) (unhide HB3).q).trans rfl
  have hfz3 : ∀ o, w3.frozen? ⟨w.heap.size + 1 + 1, o, none⟩ = false := fun o => by have h := (unhide HB3).q; simp [World.frozen?, h]
  have hown3 := (unhide HB3).own
  have hFl : (insCells F).length = F.length * 4 := insCells_len F
  have hFc := lie_cells ((unhide HFI).below' (unhide HB3).bel hfb)
  go_wp2_with (at_builtin; refine wpList_append_own _ rfl _ _ 22 rfl (w.heap.size + 3) 31 i0 (.agg #[.int .i64 0, .int .i64 0, .int .i64 0, .int .i64 0]) 4 32 Tryd.underlying22 hi hz0 hz1 hz2 rfl (by decide) _ _ _ rfl hown3 ⟨fb, fo, none⟩ F.length fc (insCells F) rfl hFl hFc (insCells_one1 F) (by show 0 + F.length ≤ maxLen; unfold maxLen; omega) (by show (0 + F.length) * 32 ≤ _; omega) (by omega) ?_)
  intro v' w5 hown' hgrow _
  obtain ⟨so', sn', sc', rfl⟩ := own_slice hown'
  have HB6 := hide (gr_put (C' := F) (unhide HB3) (Keep.refl _ _) hgrow (by exact hown'))
  have HBL := hide (grown_block (a := w3) (Keep.refl _ _) hgrow (B := w.heap.size + 1 + 1) (fun e => by have := (own_in hown3 _ e.symm).1; omega) (by omega))
  have r3 : w5.cell? ⟨w.heap.size + 1 + 1, 3, none⟩ = some (.slice none 0 0) := (World.cell?_of_block (unhide HBL)).trans q3
  have rf : w5.frozen? ⟨w.heap.size + 1 + 1, 3, none⟩ = false := (World.frozen?_of_block (unhide HBL)).trans (hfz3 3)
  clear hgrow hown' hown3 q3 hfz3 HBL hFc hFl
  go_upto_region 5 with fail
  obtain ⟨w6, hw6⟩ : ∃ w6, w6 = w5.setCell ⟨w.heap.size + 1 + 1, 3, none⟩ (.slice so' sn' sc') := ⟨_, rfl⟩
  have HB7 : Hid (GrB w w6 (.cells #[.int .i64 P, .int .i64 R, .int .i64 V, .slice ac L.length cc] 24) P R' (F ++ grTo F.length own L 0) (.slice so' sn' sc')) := by rw [hw6, show grTo F.length own L 0 = [] from rfl, List.append_nil]; exact unhide HB6
  rw [← hw6]
  clear hw6 HB6 r3 rf
  go_wp2_with fail
  go_loopw [9] (fun i' wr => ∃ j : Nat, j ≤ L.length ∧ i' = .int .i64 j ∧ ∃ sv, Hid (GrB w wr (.cells #[.int .i64 P, .int .i64 R, .int .i64 V, .slice ac L.length cc] 24) P R' (F ++ grTo F.length own L j) sv)) (fun i' _ => L.length - (intOf i').toNat)
  case atStart => exact ⟨0, Nat.zero_le _, rfl, _, unhide HB7⟩
  case round =>
    clear HB7 HB3
    obtain ⟨j, hj, rfl, sv, HB⟩ := hrel
    have p3 : wr.cell? ⟨w.heap.size, 3, none⟩ = some (.slice ac L.length cc) := (cell_of_row wr _ 3 _ 24 (0, 0) (unhide HB).box).trans rfl
    by_cases hlt : j < L.length
    case neg =>
      obtain rfl : j = L.length := by omega
      have hlt' : ¬ ((L.length : Int) < (L.length : Int)) := by omega
      have x0 : wr.cell? ⟨w.heap.size + 1 + 1, 0, none⟩ = some (.int .i64 P) := (cell_of_row wr _ 0 _ 24 (0, 0) (unhide HB).q).trans rfl
      have x1 : wr.cell? ⟨w.heap.size + 1 + 1, 1, none⟩ = some (.int .i64 R') := (cell_of_row wr _ 1 _ 24 (0, 0) (unhide HB).q).trans rfl
      have x2 : wr.cell? ⟨w.heap.size + 1 + 1, 2, none⟩ = some (.int .i64 1) := (cell_of_row wr _ 2 _ 24 (0, 0) (unhide HB).q).trans rfl
      have x3 : wr.cell? ⟨w.heap.size + 1 + 1, 3, none⟩ = some sv := (cell_of_row wr _ 3 _ 24 (0, 0) (unhide HB).q).trans rfl
      have z0 : wr.cell? ⟨w.heap.size + 1, 0, none⟩ = some (.int .i64 0) := (cell_of_row wr _ 0 _ 24 (0, 0) (unhide HB).res).trans rfl
      have z1 : wr.cell? ⟨w.heap.size + 1, 1, none⟩ = some (.int .i64 0) := (cell_of_row wr _ 1 _ 24 (0, 0) (unhide HB).res).trans rfl
      have z2 : wr.cell? ⟨w.heap.size + 1, 2, none⟩ = some (.int .i64 0) := (cell_of_row wr _ 2 _ 24 (0, 0) (unhide HB).res).trans rfl
      have z3 : wr.cell? ⟨w.heap.size + 1, 3, none⟩ = some (.slice none 0 0) := (cell_of_row wr _ 3 _ 24 (0, 0) (unhide HB).res).trans rfl
      have zf : ∀ o, wr.frozen? ⟨w.heap.size + 1, o, none⟩ = false := fun o => by have h := (unhide HB).res; simp [World.frozen?, h]
      obtain ⟨so, sn, sc, rfl⟩ := own_slice (unhide HB).own
      go_wp2_with fail
      refine bodyPost_ret (results_cell_row rfl _ _ (w.heap.size + 1) 24 _ (0, 0) _ rfl (set4p (unhide HB).res _ _ _ _) Tryd.underlying24 rfl Tryd.sizeProg) rfl ?_
      exact gr_end (unhide HB) _ _ _ _
    obtain ⟨b, off, rfl, hb, hI⟩ : ∃ b off, ac = some ⟨b, off, none⟩ ∧ b < w.heap.size ∧ LieI w b off L := by
      rcases unhide HH with h | h
      · rw [h] at hlt; exact absurd hlt (Nat.not_lt_zero _)
      · exact h
    obtain ⟨c0, c1, c2, c3⟩ := (hI j hlt).below (unhide HB).bel hb
    have hx := unhide HIN j hlt
    have HPX : Hid (F ++ grTo F.length own L (j + 1) = (F ++ grTo F.length own L j) ++ [grX F.length own j (inAt L j)]) := by show F ++ (grTo F.length own L j ++ [_]) = _; rw [List.append_assoc]
    obtain ⟨x, hxe⟩ : ∃ x, x = inAt L j := ⟨_, rfl⟩
    rw [← hxe] at c0 c1 c2 c3 HPX hx
    obtain ⟨C, hC⟩ : ∃ C, C = F ++ grTo F.length own L j := ⟨_, rfl⟩
    have hCl : C.length = F.length + j := by rw [hC, List.length_append, grTo_len]
    rw [← hC] at HB HPX
    have j0 : (0 : Int) ≤ (j : Int) := by omega
    have j1 : (j : Int) < (L.length : Int) := by omega
    have hsz := (unhide HB).size
    obtain ⟨op, d, a, b'⟩ := x
    simp only at c0 c1 c2 c3
    have HX := hide hx
    clear hxe hC hI hx
    by_cases o7 : op = 7
    · subst o7
      have hr := (unhide HX).2.2.2.2.2.2.1 rfl
      simp only at hr
      have ww : IntKind.i64.wrap (a + (F.length : Int)) = a + (F.length : Int) := by rw [IntKind.wrap_i64]; omega
      have HZE : Hid (grX F.length own j ⟨7, d, a, b'⟩ = ⟨7, d, a + (F.length : Int), b'⟩) := rfl
      obtain ⟨wa, hwa, hqa, HLa, hza⟩ := box4 wr ⟨7, d, (a + (F.length : Int)), b'⟩
      simp only at hwa
      have HWA := hide hwa
      have HQA := hide hqa
      clear hwa hqa
      go_upto_region 22 with fail
      rw [← unhide HWA]
      clear c0 c1 c2 c3 p3 HWA
      have HBa := hide ((unhide HB).below (unhide HLa))
      obtain ⟨a0, a1, a2, a3⟩ := unhide HQA
      simp only at a0 a1 a2 a3
      have s3 : wa.cell? ⟨w.heap.size + 1 + 1, 3, none⟩ = some sv := (cell_of_row wa _ 3 _ 24 (0, 0) (unhide HBa).q).trans rfl
      have hfz : ∀ o, wa.frozen? ⟨w.heap.size + 1 + 1, o, none⟩ = false := fun o => by have h := (unhide HBa).q; simp [World.frozen?, h]
      have hown := (unhide HBa).own
      have hsz6 := (unhide HBa).size
      go_wp2_with (at_builtin; refine wpList_append_own _ rfl _ _ 22 rfl (w.heap.size + 3) 31 i0 (.agg #[.int .i64 0, .int .i64 0, .int .i64 0, .int .i64 0]) 4 32 Tryd.underlying22 hi hz0 hz1 hz2 rfl (by decide) _ _ _ rfl (hown.alloc _) ⟨wa.heap.size, 0, none⟩ 1 1 [.int .i64 7, .int .i64 d, .int .i64 (a + (F.length : Int)), .int .i64 b'] rfl rfl (cells_new _ _ (by simp) 31 _) (by intro u hu; simp only [List.mem_cons, List.not_mem_nil, or_false] at hu; rcases hu with rfl | rfl | rfl | rfl <;> rfl) (by unfold maxLen; omega) (by omega) (by simp; omega) ?_)
      intro v' w9 hown' hgrow _
      obtain ⟨so', sn', sc', rfl⟩ := own_slice hown'
      have HR2 := hide (gr_put (C' := C ++ [⟨7, d, (a + (F.length : Int)), b'⟩]) (unhide HBa) ((Keep.refl _ _).alloc _) hgrow (by rw [List.length_append, insCells_snoc, hCl]; exact hown'))
      have HBL := hide (grown_block (a := wa) ((Keep.refl _ _).alloc _) hgrow (B := w.heap.size + 1 + 1) (fun e => by have := (own_in hown _ e.symm).1; omega) (by omega))
      have r3 : w9.cell? ⟨w.heap.size + 1 + 1, 3, none⟩ = some sv := (World.cell?_of_block (unhide HBL)).trans s3
      have rf : w9.frozen? ⟨w.heap.size + 1 + 1, 3, none⟩ = false := (World.frozen?_of_block (unhide HBL)).trans (hfz 3)
      clear hgrow hown' hown s3 hfz a0 a1 a2 a3 HBL
      go_wp2_with fail
      go_roundw
      case rel => exact ⟨j + 1, by omega, by go_num, _, by rw [unhide HPX, unhide HZE]; exact unhide HR2⟩
      case measure => simp [intOf]; omega
    by_cases o8 : op = 8
    · subst o8
      have hr := (unhide HX).2.2.2.2.2.2.2.1 rfl
      simp only at hr
      have ww : IntKind.i64.wrap (b' + (F.length : Int)) = b' + (F.length : Int) := by rw [IntKind.wrap_i64]; omega
      have HZE : Hid (grX F.length own j ⟨8, d, a, b'⟩ = ⟨8, d, a, b' + (F.length : Int)⟩) := rfl
      clear o7
      obtain ⟨wa, hwa, hqa, HLa, hza⟩ := box4 wr ⟨8, d, a, (b' + (F.length : Int))⟩
      simp only at hwa
      have HWA := hide hwa
      have HQA := hide hqa
      clear hwa hqa
      go_upto_region 22 with fail
      rw [← unhide HWA]
      clear c0 c1 c2 c3 p3 HWA
      have HBa := hide ((unhide HB).below (unhide HLa))
      obtain ⟨a0, a1, a2, a3⟩ := unhide HQA
      simp only at a0 a1 a2 a3
      have s3 : wa.cell? ⟨w.heap.size + 1 + 1, 3, none⟩ = some sv := (cell_of_row wa _ 3 _ 24 (0, 0) (unhide HBa).q).trans rfl
      have hfz : ∀ o, wa.frozen? ⟨w.heap.size + 1 + 1, o, none⟩ = false := fun o => by have h := (unhide HBa).q; simp [World.frozen?, h]
      have hown := (unhide HBa).own
      have hsz6 := (unhide HBa).size
      go_wp2_with (at_builtin; refine wpList_append_own _ rfl _ _ 22 rfl (w.heap.size + 3) 31 i0 (.agg #[.int .i64 0, .int .i64 0, .int .i64 0, .int .i64 0]) 4 32 Tryd.underlying22 hi hz0 hz1 hz2 rfl (by decide) _ _ _ rfl (hown.alloc _) ⟨wa.heap.size, 0, none⟩ 1 1 [.int .i64 8, .int .i64 d, .int .i64 a, .int .i64 (b' + (F.length : Int))] rfl rfl (cells_new _ _ (by simp) 31 _) (by intro u hu; simp only [List.mem_cons, List.not_mem_nil, or_false] at hu; rcases hu with rfl | rfl | rfl | rfl <;> rfl) (by unfold maxLen; omega) (by omega) (by simp; omega) ?_)
      intro v' w9 hown' hgrow _
      obtain ⟨so', sn', sc', rfl⟩ := own_slice hown'
      have HR2 := hide (gr_put (C' := C ++ [⟨8, d, a, (b' + (F.length : Int))⟩]) (unhide HBa) ((Keep.refl _ _).alloc _) hgrow (by rw [List.length_append, insCells_snoc, hCl]; exact hown'))
      have HBL := hide (grown_block (a := wa) ((Keep.refl _ _).alloc _) hgrow (B := w.heap.size + 1 + 1) (fun e => by have := (own_in hown _ e.symm).1; omega) (by omega))
      have r3 : w9.cell? ⟨w.heap.size + 1 + 1, 3, none⟩ = some sv := (World.cell?_of_block (unhide HBL)).trans s3
      have rf : w9.frozen? ⟨w.heap.size + 1 + 1, 3, none⟩ = false := (World.frozen?_of_block (unhide HBL)).trans (hfz 3)
      clear hgrow hown' hown s3 hfz a0 a1 a2 a3 HBL
      go_wp2_with fail
      go_roundw
      case rel => exact ⟨j + 1, by omega, by go_num, _, by rw [unhide HPX, unhide HZE]; exact unhide HR2⟩
      case measure => simp [intOf]; omega
    by_cases o10 : op = 10
    · subst o10
      clear o7 o8
      by_cases ow : 0 ≤ own
      · have HZE : Hid (grX F.length own j ⟨10, d, a, b'⟩ = ⟨10, d, own, b'⟩) := by show (if 0 ≤ own then (⟨10, d, own, b'⟩ : In4) else ⟨10, d, a, b'⟩) = _; rw [if_pos ow]
        obtain ⟨wa, hwa, hqa, HLa, hza⟩ := box4 wr ⟨10, d, own, b'⟩
        simp only at hwa
        have HWA := hide hwa
        have HQA := hide hqa
        clear hwa hqa
        go_upto_region 22 with fail
        rw [← unhide HWA]
        clear c0 c1 c2 c3 p3 HWA
        have HBa := hide ((unhide HB).below (unhide HLa))
        obtain ⟨a0, a1, a2, a3⟩ := unhide HQA
        simp only at a0 a1 a2 a3
        have s3 : wa.cell? ⟨w.heap.size + 1 + 1, 3, none⟩ = some sv := (cell_of_row wa _ 3 _ 24 (0, 0) (unhide HBa).q).trans rfl
        have hfz : ∀ o, wa.frozen? ⟨w.heap.size + 1 + 1, o, none⟩ = false := fun o => by have h := (unhide HBa).q; simp [World.frozen?, h]
        have hown := (unhide HBa).own
        have hsz6 := (unhide HBa).size
        go_wp2_with (at_builtin; refine wpList_append_own _ rfl _ _ 22 rfl (w.heap.size + 3) 31 i0 (.agg #[.int .i64 0, .int .i64 0, .int .i64 0, .int .i64 0]) 4 32 Tryd.underlying22 hi hz0 hz1 hz2 rfl (by decide) _ _ _ rfl (hown.alloc _) ⟨wa.heap.size, 0, none⟩ 1 1 [.int .i64 10, .int .i64 d, .int .i64 own, .int .i64 b'] rfl rfl (cells_new _ _ (by simp) 31 _) (by intro u hu; simp only [List.mem_cons, List.not_mem_nil, or_false] at hu; rcases hu with rfl | rfl | rfl | rfl <;> rfl) (by unfold maxLen; omega) (by omega) (by simp; omega) ?_)
        intro v' w9 hown' hgrow _
        obtain ⟨so', sn', sc', rfl⟩ := own_slice hown'
        have HR2 := hide (gr_put (C' := C ++ [⟨10, d, own, b'⟩]) (unhide HBa) ((Keep.refl _ _).alloc _) hgrow (by rw [List.length_append, insCells_snoc, hCl]; exact hown'))
        have HBL := hide (grown_block (a := wa) ((Keep.refl _ _).alloc _) hgrow (B := w.heap.size + 1 + 1) (fun e => by have := (own_in hown _ e.symm).1; omega) (by omega))
        have r3 : w9.cell? ⟨w.heap.size + 1 + 1, 3, none⟩ = some sv := (World.cell?_of_block (unhide HBL)).trans s3
        have rf : w9.frozen? ⟨w.heap.size + 1 + 1, 3, none⟩ = false := (World.frozen?_of_block (unhide HBL)).trans (hfz 3)
        clear hgrow hown' hown s3 hfz a0 a1 a2 a3 HBL
        go_wp2_with fail
        go_roundw
        case rel => exact ⟨j + 1, by omega, by go_num, _, by rw [unhide HPX, unhide HZE]; exact unhide HR2⟩
        case measure => simp [intOf]; omega
      · have HZE : Hid (grX F.length own j ⟨10, d, a, b'⟩ = ⟨10, d, a, b'⟩) := by show (if 0 ≤ own then (⟨10, d, own, b'⟩ : In4) else ⟨10, d, a, b'⟩) = _; rw [if_neg ow]
        obtain ⟨wa, hwa, hqa, HLa, hza⟩ := box4 wr ⟨10, d, a, b'⟩
        simp only at hwa
        have HWA := hide hwa
        have HQA := hide hqa
        clear hwa hqa
        go_upto_region 22 with fail
        rw [← unhide HWA]
        clear c0 c1 c2 c3 p3 HWA
        have HBa := hide ((unhide HB).below (unhide HLa))
        obtain ⟨a0, a1, a2, a3⟩ := unhide HQA
        simp only at a0 a1 a2 a3
        have s3 : wa.cell? ⟨w.heap.size + 1 + 1, 3, none⟩ = some sv := (cell_of_row wa _ 3 _ 24 (0, 0) (unhide HBa).q).trans rfl
        have hfz : ∀ o, wa.frozen? ⟨w.heap.size + 1 + 1, o, none⟩ = false := fun o => by have h := (unhide HBa).q; simp [World.frozen?, h]
        have hown := (unhide HBa).own
        have hsz6 := (unhide HBa).size
        go_wp2_with (at_builtin; refine wpList_append_own _ rfl _ _ 22 rfl (w.heap.size + 3) 31 i0 (.agg #[.int .i64 0, .int .i64 0, .int .i64 0, .int .i64 0]) 4 32 Tryd.underlying22 hi hz0 hz1 hz2 rfl (by decide) _ _ _ rfl (hown.alloc _) ⟨wa.heap.size, 0, none⟩ 1 1 [.int .i64 10, .int .i64 d, .int .i64 a, .int .i64 b'] rfl rfl (cells_new _ _ (by simp) 31 _) (by intro u hu; simp only [List.mem_cons, List.not_mem_nil, or_false] at hu; rcases hu with rfl | rfl | rfl | rfl <;> rfl) (by unfold maxLen; omega) (by omega) (by simp; omega) ?_)
        intro v' w9 hown' hgrow _
        obtain ⟨so', sn', sc', rfl⟩ := own_slice hown'
        have HR2 := hide (gr_put (C' := C ++ [⟨10, d, a, b'⟩]) (unhide HBa) ((Keep.refl _ _).alloc _) hgrow (by rw [List.length_append, insCells_snoc, hCl]; exact hown'))
        have HBL := hide (grown_block (a := wa) ((Keep.refl _ _).alloc _) hgrow (B := w.heap.size + 1 + 1) (fun e => by have := (own_in hown _ e.symm).1; omega) (by omega))
        have r3 : w9.cell? ⟨w.heap.size + 1 + 1, 3, none⟩ = some sv := (World.cell?_of_block (unhide HBL)).trans s3
        have rf : w9.frozen? ⟨w.heap.size + 1 + 1, 3, none⟩ = false := (World.frozen?_of_block (unhide HBL)).trans (hfz 3)
        clear hgrow hown' hown s3 hfz a0 a1 a2 a3 HBL
        go_wp2_with fail
        go_roundw
        case rel => exact ⟨j + 1, by omega, by go_num, _, by rw [unhide HPX, unhide HZE]; exact unhide HR2⟩
        case measure => simp [intOf]; omega
    by_cases o12 : op = 12
    · subst o12
      clear o7 o8 o10
      have HZE : Hid (grX F.length own j ⟨12, d, a, b'⟩ = ⟨11, 0, j, 0⟩) := rfl
      obtain ⟨wa, hwa, hqa, HLa, hza⟩ := box4 wr ⟨11, 0, (j : Int), 0⟩
      simp only at hwa
      have HWA := hide hwa
      have HQA := hide hqa
      clear hwa hqa
      go_upto_region 22 with fail
      rw [← unhide HWA]
      clear c0 c1 c2 c3 p3 HWA
      have HBa := hide ((unhide HB).below (unhide HLa))
      obtain ⟨a0, a1, a2, a3⟩ := unhide HQA
      simp only at a0 a1 a2 a3
      have s3 : wa.cell? ⟨w.heap.size + 1 + 1, 3, none⟩ = some sv := (cell_of_row wa _ 3 _ 24 (0, 0) (unhide HBa).q).trans rfl
      have hfz : ∀ o, wa.frozen? ⟨w.heap.size + 1 + 1, o, none⟩ = false := fun o => by have h := (unhide HBa).q; simp [World.frozen?, h]
      have hown := (unhide HBa).own
      have hsz6 := (unhide HBa).size
      go_wp2_with (at_builtin; refine wpList_append_own _ rfl _ _ 22 rfl (w.heap.size + 3) 31 i0 (.agg #[.int .i64 0, .int .i64 0, .int .i64 0, .int .i64 0]) 4 32 Tryd.underlying22 hi hz0 hz1 hz2 rfl (by decide) _ _ _ rfl (hown.alloc _) ⟨wa.heap.size, 0, none⟩ 1 1 [.int .i64 11, .int .i64 0, .int .i64 (j : Int), .int .i64 0] rfl rfl (cells_new _ _ (by simp) 31 _) (by intro u hu; simp only [List.mem_cons, List.not_mem_nil, or_false] at hu; rcases hu with rfl | rfl | rfl | rfl <;> rfl) (by unfold maxLen; omega) (by omega) (by simp; omega) ?_)
      intro v' w9 hown' hgrow _
      obtain ⟨so', sn', sc', rfl⟩ := own_slice hown'
      have HR2 := hide (gr_put (C' := C ++ [⟨11, 0, (j : Int), 0⟩]) (unhide HBa) ((Keep.refl _ _).alloc _) hgrow (by rw [List.length_append, insCells_snoc, hCl]; exact hown'))
      have HBL := hide (grown_block (a := wa) ((Keep.refl _ _).alloc _) hgrow (B := w.heap.size + 1 + 1) (fun e => by have := (own_in hown _ e.symm).1; omega) (by omega))
      have r3 : w9.cell? ⟨w.heap.size + 1 + 1, 3, none⟩ = some sv := (World.cell?_of_block (unhide HBL)).trans s3
      have rf : w9.frozen? ⟨w.heap.size + 1 + 1, 3, none⟩ = false := (World.frozen?_of_block (unhide HBL)).trans (hfz 3)
      clear hgrow hown' hown s3 hfz a0 a1 a2 a3 HBL
      go_wp2_with fail
      go_roundw
      case rel => exact ⟨j + 1, by omega, by go_num, _, by rw [unhide HPX, unhide HZE]; exact unhide HR2⟩
      case measure => simp [intOf]; omega
    by_cases o13 : op = 13
    · subst o13
      clear o7 o8 o10 o12
      have HZE : Hid (grX F.length own j ⟨13, d, a, b'⟩ = ⟨11, 0, j, 0⟩) := rfl
      obtain ⟨wa, hwa, hqa, HLa, hza⟩ := box4 wr ⟨11, 0, (j : Int), 0⟩
      simp only at hwa
      have HWA := hide hwa
      have HQA := hide hqa
      clear hwa hqa
      go_upto_region 22 with fail
      rw [← unhide HWA]
      clear c0 c1 c2 c3 p3 HWA
      have HBa := hide ((unhide HB).below (unhide HLa))
      obtain ⟨a0, a1, a2, a3⟩ := unhide HQA
      simp only at a0 a1 a2 a3
      have s3 : wa.cell? ⟨w.heap.size + 1 + 1, 3, none⟩ = some sv := (cell_of_row wa _ 3 _ 24 (0, 0) (unhide HBa).q).trans rfl
      have hfz : ∀ o, wa.frozen? ⟨w.heap.size + 1 + 1, o, none⟩ = false := fun o => by have h := (unhide HBa).q; simp [World.frozen?, h]
      have hown := (unhide HBa).own
      have hsz6 := (unhide HBa).size
      go_wp2_with (at_builtin; refine wpList_append_own _ rfl _ _ 22 rfl (w.heap.size + 3) 31 i0 (.agg #[.int .i64 0, .int .i64 0, .int .i64 0, .int .i64 0]) 4 32 Tryd.underlying22 hi hz0 hz1 hz2 rfl (by decide) _ _ _ rfl (hown.alloc _) ⟨wa.heap.size, 0, none⟩ 1 1 [.int .i64 11, .int .i64 0, .int .i64 (j : Int), .int .i64 0] rfl rfl (cells_new _ _ (by simp) 31 _) (by intro u hu; simp only [List.mem_cons, List.not_mem_nil, or_false] at hu; rcases hu with rfl | rfl | rfl | rfl <;> rfl) (by unfold maxLen; omega) (by omega) (by simp; omega) ?_)
      intro v' w9 hown' hgrow _
      obtain ⟨so', sn', sc', rfl⟩ := own_slice hown'
      have HR2 := hide (gr_put (C' := C ++ [⟨11, 0, (j : Int), 0⟩]) (unhide HBa) ((Keep.refl _ _).alloc _) hgrow (by rw [List.length_append, insCells_snoc, hCl]; exact hown'))
      have HBL := hide (grown_block (a := wa) ((Keep.refl _ _).alloc _) hgrow (B := w.heap.size + 1 + 1) (fun e => by have := (own_in hown _ e.symm).1; omega) (by omega))
      have r3 : w9.cell? ⟨w.heap.size + 1 + 1, 3, none⟩ = some sv := (World.cell?_of_block (unhide HBL)).trans s3
      have rf : w9.frozen? ⟨w.heap.size + 1 + 1, 3, none⟩ = false := (World.frozen?_of_block (unhide HBL)).trans (hfz 3)
      clear hgrow hown' hown s3 hfz a0 a1 a2 a3 HBL
      go_wp2_with fail
      go_roundw
      case rel => exact ⟨j + 1, by omega, by go_num, _, by rw [unhide HPX, unhide HZE]; exact unhide HR2⟩
      case measure => simp [intOf]; omega
    by_cases o14 : op = 14
    · subst o14
      clear o7 o8 o10 o12 o13
      have HZE : Hid (grX F.length own j ⟨14, d, a, b'⟩ = ⟨11, 0, j, 0⟩) := rfl
      obtain ⟨wa, hwa, hqa, HLa, hza⟩ := box4 wr ⟨11, 0, (j : Int), 0⟩
      simp only at hwa
      have HWA := hide hwa
      have HQA := hide hqa
      clear hwa hqa
      go_upto_region 22 with fail
      rw [← unhide HWA]
      clear c0 c1 c2 c3 p3 HWA
      have HBa := hide ((unhide HB).below (unhide HLa))
      obtain ⟨a0, a1, a2, a3⟩ := unhide HQA
      simp only at a0 a1 a2 a3
      have s3 : wa.cell? ⟨w.heap.size + 1 + 1, 3, none⟩ = some sv := (cell_of_row wa _ 3 _ 24 (0, 0) (unhide HBa).q).trans rfl
      have hfz : ∀ o, wa.frozen? ⟨w.heap.size + 1 + 1, o, none⟩ = false := fun o => by have h := (unhide HBa).q; simp [World.frozen?, h]
      have hown := (unhide HBa).own
      have hsz6 := (unhide HBa).size
      go_wp2_with (at_builtin; refine wpList_append_own _ rfl _ _ 22 rfl (w.heap.size + 3) 31 i0 (.agg #[.int .i64 0, .int .i64 0, .int .i64 0, .int .i64 0]) 4 32 Tryd.underlying22 hi hz0 hz1 hz2 rfl (by decide) _ _ _ rfl (hown.alloc _) ⟨wa.heap.size, 0, none⟩ 1 1 [.int .i64 11, .int .i64 0, .int .i64 (j : Int), .int .i64 0] rfl rfl (cells_new _ _ (by simp) 31 _) (by intro u hu; simp only [List.mem_cons, List.not_mem_nil, or_false] at hu; rcases hu with rfl | rfl | rfl | rfl <;> rfl) (by unfold maxLen; omega) (by omega) (by simp; omega) ?_)
      intro v' w9 hown' hgrow _
      obtain ⟨so', sn', sc', rfl⟩ := own_slice hown'
      have HR2 := hide (gr_put (C' := C ++ [⟨11, 0, (j : Int), 0⟩]) (unhide HBa) ((Keep.refl _ _).alloc _) hgrow (by rw [List.length_append, insCells_snoc, hCl]; exact hown'))
      have HBL := hide (grown_block (a := wa) ((Keep.refl _ _).alloc _) hgrow (B := w.heap.size + 1 + 1) (fun e => by have := (own_in hown _ e.symm).1; omega) (by omega))
      have r3 : w9.cell? ⟨w.heap.size + 1 + 1, 3, none⟩ = some sv := (World.cell?_of_block (unhide HBL)).trans s3
      have rf : w9.frozen? ⟨w.heap.size + 1 + 1, 3, none⟩ = false := (World.frozen?_of_block (unhide HBL)).trans (hfz 3)
      clear hgrow hown' hown s3 hfz a0 a1 a2 a3 HBL
      go_wp2_with fail
      go_roundw
      case rel => exact ⟨j + 1, by omega, by go_num, _, by rw [unhide HPX, unhide HZE]; exact unhide HR2⟩
      case measure => simp [intOf]; omega
    have HZE : Hid (grX F.length own j ⟨op, d, a, b'⟩ = ⟨op, d, a, b'⟩) := by unfold grX; simp only; rw [if_neg o7, if_neg o8, if_neg o10, if_neg (by omega)]; exact hide rfl
    have k7 : (op == 7) = false := by rw [beq_eq_false_iff_ne]; exact o7
    have k8 : (op == 8) = false := by rw [beq_eq_false_iff_ne]; exact o8
    have k10 : (op == 10) = false := by rw [beq_eq_false_iff_ne]; exact o10
    have k12 : (op == 12) = false := by rw [beq_eq_false_iff_ne]; exact o12
    have k13 : (op == 13) = false := by rw [beq_eq_false_iff_ne]; exact o13
    have k14 : (op == 14) = false := by rw [beq_eq_false_iff_ne]; exact o14
    clear o7 o8 o10 o12 o13 o14
    obtain ⟨wa, hwa, hqa, HLa, hza⟩ := box4 wr ⟨op, d, a, b'⟩
    simp only at hwa
    have HWA := hide hwa
    have HQA := hide hqa
    clear hwa hqa
    go_upto_region 22 with fail
    rw [← unhide HWA]
    clear c0 c1 c2 c3 p3 HWA
    have HBa := hide ((unhide HB).below (unhide HLa))
    obtain ⟨a0, a1, a2, a3⟩ := unhide HQA
    simp only at a0 a1 a2 a3
    have s3 : wa.cell? ⟨w.heap.size + 1 + 1, 3, none⟩ = some sv := (cell_of_row wa _ 3 _ 24 (0, 0) (unhide HBa).q).trans rfl
    have hfz : ∀ o, wa.frozen? ⟨w.heap.size + 1 + 1, o, none⟩ = false := fun o => by have h := (unhide HBa).q; simp [World.frozen?, h]
    have hown := (unhide HBa).own
    have hsz6 := (unhide HBa).size
    go_wp2_with (at_builtin; refine wpList_append_own _ rfl _ _ 22 rfl (w.heap.size + 3) 31 i0 (.agg #[.int .i64 0, .int .i64 0, .int .i64 0, .int .i64 0]) 4 32 Tryd.underlying22 hi hz0 hz1 hz2 rfl (by decide) _ _ _ rfl (hown.alloc _) ⟨wa.heap.size, 0, none⟩ 1 1 [.int .i64 op, .int .i64 d, .int .i64 a, .int .i64 b'] rfl rfl (cells_new _ _ (by simp) 31 _) (by intro u hu; simp only [List.mem_cons, List.not_mem_nil, or_false] at hu; rcases hu with rfl | rfl | rfl | rfl <;> rfl) (by unfold maxLen; omega) (by omega) (by simp; omega) ?_)
    intro v' w9 hown' hgrow _
    obtain ⟨so', sn', sc', rfl⟩ := own_slice hown'
    have HR2 := hide (gr_put (C' := C ++ [⟨op, d, a, b'⟩]) (unhide HBa) ((Keep.refl _ _).alloc _) hgrow (by rw [List.length_append, insCells_snoc, hCl]; exact hown'))
    have HBL := hide (grown_block (a := wa) ((Keep.refl _ _).alloc _) hgrow (B := w.heap.size + 1 + 1) (fun e => by have := (own_in hown _ e.symm).1; omega) (by omega))
    have r3 : w9.cell? ⟨w.heap.size + 1 + 1, 3, none⟩ = some sv := (World.cell?_of_block (unhide HBL)).trans s3
    have rf : w9.frozen? ⟨w.heap.size + 1 + 1, 3, none⟩ = false := (World.frozen?_of_block (unhide HBL)).trans (hfz 3)
    clear hgrow hown' hown s3 hfz a0 a1 a2 a3 HBL
    go_wp2_with fail
    go_roundw
    case rel => exact ⟨j + 1, by omega, by go_num, _, by rw [unhide HPX, unhide HZE]; exact unhide HR2⟩
    case measure => simp [intOf]; omega

set_option maxRecDepth 100000 in
set_option maxHeartbeats 4000000 in
theorem every_any (s : St) (k c : Int) (b1 : Nat) (v1 : Value) (w : World) (h1 : ResOf w b1 v1 s) (hk : k ≤ (s.stops.length : Int)) (hc : ∀ n, n < s.stops.length → (snAt s.stops n).v 0 = c) :
    Calls Tryd.prog 15 #[v1, .int .i64 k, .int .i64 c] w fun e w' => e = .returned (.bool true) ∧ Below w.heap.size w w' := by
  obtain ⟨vo, vs, rfl, o1, s1⟩ := h1
  obtain ⟨ao, co, rfl, _, _⟩ := own_heldI o1
  obtain ⟨as', cs, rfl, hS, hm⟩ := own_heldS s1
  unfold maxLen at hm
  obtain ⟨w1, hw1⟩ : ∃ w1, w1 = w.alloc (.cells #[.int .i64 s.kind, .int .i64 s.val, .int .i64 (s.steps : Int), .slice ao s.outs.length co, .slice as' s.stops.length cs] 38) := ⟨_, rfl⟩
  have HL1 : Hid (Below w.heap.size w w1) := by rw [hw1]; exact below_alloc _ _
  have q4 : w1.cell? ⟨w.heap.size, 4, none⟩ = some (.slice as' s.stops.length cs) := by rw [hw1, World.cell?_alloc_at (hn := rfl)]; rfl
  have HS := hide (hS.below (unhide HL1))
  have HC := hide hc
  have HW := hide hw1
  clear hw1 o1 s1 hS hc
  go_enter Tryd.func15, Tryd.ntmps15
  go_upto_region 1 with fail
  rw [← unhide HW]
  go_wp2_with fail
  go_loopw [7] (fun i' wr => ∃ j : Nat, j ≤ s.stops.length ∧ i' = .int .i64 j ∧ wr = w1) (fun i' _ => s.stops.length - (intOf i').toNat)
  case atStart => exact ⟨0, Nat.zero_le _, rfl, rfl⟩
  case round =>
    obtain ⟨j, hj, rfl, rfl⟩ := hrel
    by_cases j1 : j < s.stops.length
    case neg =>
      obtain rfl : j = s.stops.length := by omega
      go_wp2_with fail
      go_returns
      exact ⟨rfl, unhide HL1⟩
    have j2 : (j : Int) < (s.stops.length : Int) := by omega
    have j0 : (0 : Int) ≤ (j : Int) := by omega
    obtain ⟨b, off, rfl, hb, g⟩ : ∃ b off, as' = some ⟨b, off, none⟩ ∧ b < wr.heap.size ∧ ∀ i, i < s.stops.length → SeenC wr b (off + i * 5) (snAt s.stops i) := by
      rcases unhide HS with h | h
      · rw [h] at j1; exact absurd j1 (Nat.not_lt_zero _)
      · exact h
    have e1 := (g j j1).2 0 (by omega)
    rw [unhide HC j j1] at e1
    rw [Nat.add_zero] at e1
    clear g
    go_wp2_with fail
    go_roundw
    case rel => exact ⟨j + 1, by omega, by go_num, by first | rfl | trivial⟩
    case measure => simp [intOf]; omega
end Go.Proofs.YtoepcplbpochpabDoor
