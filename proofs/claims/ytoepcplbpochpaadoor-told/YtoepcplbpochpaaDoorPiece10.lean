/-
  What is known behind an instruction, and where two ways come together: lodge.factBehind, lodge.meet.
-/
import Derived.Test.YtoepcplbpochpaaDoorPiece1
import Derived.Test.YtoepcplbpochpaaDoorPiece3
import Derived.Test.YtoepcplbpochpaaDoorPiece5
import Derived.Deep.CutRange

namespace Go.Proofs.YtoepcplbpochpaaDoor
open Go.RowKit

def Ft.v (f : Ft) : Value := .agg #[.int .i64 f.k, .int .i64 f.a]
/-- A fact in memory. -/
def At2 (w : World) (b o : Nat) (f : Ft) : Prop := w.cell? ⟨b, o, none⟩ = some (.int .i64 f.k) ∧ w.cell? ⟨b, o + 1, none⟩ = some (.int .i64 f.a)
theorem At2.below {w w' : World} {B b o : Nat} {f : Ft} (h : At2 w b o f) (hb : Below B w w') (hB : b < B) : At2 w' b o f := ⟨(hb.cell hB).trans h.1, (hb.cell hB).trans h.2⟩
theorem at2_new (w : World) (f : Ft) (b : Nat) (hb : b = w.heap.size) : At2 (w.alloc (.cells #[.int .i64 f.k, .int .i64 f.a] 151)) b 0 f := by
  subst hb
  have q : ∀ i, (w.alloc (.cells #[.int .i64 f.k, .int .i64 f.a] 151)).cell? ⟨w.heap.size, i, none⟩ = #[Value.int .i64 f.k, .int .i64 f.a][i]? := fun i => World.cell?_alloc_at (hn := rfl) ..
  exact ⟨(q 0).trans rfl, (q 1).trans rfl⟩
/-- The head of factBehind. -/
theorem open_beh (w : World) (x : In4) (f : Ft) : ∃ w2, w2 = ((w.alloc (.cells #[.int .i64 x.op, .int .i64 x.d, .int .i64 x.a, .int .i64 x.b] 77)).alloc (.cells #[.int .i64 f.k, .int .i64 f.a] 151)).alloc (.cells #[.int .i64 0, .int .i64 0] 151) ∧
    At4 w2 w.heap.size 0 x ∧ At2 w2 (w.heap.size + 1) 0 f ∧ At2 w2 (w.heap.size + 1 + 1) 0 f0 ∧ Hid (Below w.heap.size w w2) ∧ (∀ o, w2.frozen? ⟨w.heap.size + 1 + 1, o, none⟩ = false) ∧ Hid (w2.heap[w.heap.size + 1 + 1]? = some (.cells #[.int .i64 0, .int .i64 0] 151 (0, 0))) := by
  obtain ⟨w1, hw1, hq, HB, hz⟩ := box4 w x
  have hz' : w1.heap.size = w.heap.size + 1 := by rw [hw1]; simp
  have hb2 := below_alloc w1 (.cells #[.int .i64 f.k, .int .i64 f.a] 151)
  have hb3 := below_alloc (w1.alloc (.cells #[.int .i64 f.k, .int .i64 f.a] 151)) (.cells #[.int .i64 0, .int .i64 0] 151)
  have hs2 : (w1.alloc (.cells #[.int .i64 f.k, .int .i64 f.a] 151)).heap.size = w.heap.size + 1 + 1 := by simp [hz']
  refine ⟨_, rfl, ?_, ?_, ?_, ?_, ?_, ?_⟩
  all_goals rw [← hw1]
  · exact (hq.below hb2 hz).below hb3 (by omega)
  · exact (at2_new w1 f (w.heap.size + 1) hz'.symm).below hb3 (by omega)
  · exact at2_new _ f0 _ hs2.symm
  · exact ((unhide HB).trans (hb2.mono (by omega))).trans (hb3.mono (by omega))
  · intro o
    have h := at_alloc (w1.alloc (.cells #[.int .i64 f.k, .int .i64 f.a] 151)) (w.heap.size + 1 + 1) (.cells #[.int .i64 0, .int .i64 0] 151) hs2.symm
    simp [World.frozen?, h]
  · exact at_alloc (w1.alloc (.cells #[.int .i64 f.k, .int .i64 f.a] 151)) (w.heap.size + 1 + 1) (.cells #[.int .i64 0, .int .i64 0] 151) hs2.symm
theorem Tryd.size151 : (Tryd.prog.info? 151).map (·.size) = some 2 := by kernel_rfl
theorem res2 {w2 : World} {N : Nat} (h : w2.heap[N]? = some (.cells #[.int .i64 0, .int .i64 0] 151 (0, 0))) (a b : Value) : ((w2.setCell ⟨N, 0, none⟩ a).setCell ⟨N, 1, none⟩ b).heap[N]? = some (.cells #[a, b] 151 (0, 0)) := by
  rw [heap_setCell_same _ N 1 _ 151 b (heap_setCell_same w2 N 0 _ 151 a h)]; rfl
theorem below_two {w w2 : World} {N : Nat} (h : Below w.heap.size w w2) (hN : w.heap.size ≤ N) (a b : Value) : Below w.heap.size w ((w2.setCell ⟨N, 0, none⟩ a).setCell ⟨N, 1, none⟩ b) := (h.setCell (p := ⟨N, 0, none⟩) hN a).setCell (p := ⟨N, 1, none⟩) hN b

set_option maxRecDepth 100000 in
set_option maxHeartbeats 8000000 in
theorem behind_any (x : In4) (v : Int) (f : Ft) (w : World) :
    Calls Tryd.prog 139 #[.agg #[.int .i64 x.op, .int .i64 x.d, .int .i64 x.a, .int .i64 x.b], .int .i64 v, .agg #[.int .i64 f.k, .int .i64 f.a]] w fun e w' => e = .returned (behF x v f).v ∧ Below w.heap.size w w' := by
  obtain ⟨w2, hw2, hx, hf, hr, HB, hfz, hz⟩ := open_beh w x f
  have HW := hide hw2
  obtain ⟨q0, q1, q2, q3⟩ := hx
  obtain ⟨c0, c1⟩ := hf
  obtain ⟨r0, r1⟩ := hr
  clear hw2
  have KW := hide (wrB_any x f.a)
  go_enter Tryd.func139, Tryd.ntmps139
  go_upto_region 1 with fail
  rw [← unhide HW]
  have HBB := HB
  by_cases h0 : f.k = 0
  · have HR := hide (show (behF x v f).v = .agg #[.int .i64 0, .int .i64 f.a] by unfold behF; rw [if_pos h0]; unfold Ft.v; rw [h0])
    rw [h0] at c0
    clear h0
    go_wp2_with fail
    refine bodyPost_ret (results_cell_row rfl _ _ (w.heap.size + 1 + 1) 151 _ (0, 0) _ rfl (res2 (unhide hz) _ _) Tryd.underlying151 rfl Tryd.size151) rfl ?_
    exact ⟨by rw [unhide HR], below_two (unhide HBB) (by omega) _ _⟩
  have g0 : (f.k == 0) = false := by rw [beq_eq_false_iff_ne]; exact h0
  have HX := hide (show At4 w2 w.heap.size 0 x from ⟨q0, q1, q2, q3⟩)
  have HF2 := hide (show At2 w2 (w.heap.size + 1) 0 f from ⟨c0, c1⟩)
  have HR2 := hide (show At2 w2 (w.heap.size + 1 + 1) 0 f0 from ⟨r0, r1⟩)
  have hz2 : w.heap.size + 1 + 1 < w2.heap.size := (Array.getElem?_eq_some_iff.1 (unhide hz)).1
  by_cases h3 : f.k = 3
  · have g3 : (f.k == 3) = true := by rw [beq_iff_eq]; exact h3
    by_cases hwr : wrB x f.a = true
    · have HR := hide (show (behF x v f).v = .agg #[.int .i64 1, .int .i64 0] by unfold behF; rw [if_neg h0, if_pos ⟨h3, hwr⟩]; rfl)
      rw [hwr] at KW
      clear h0 h3 hwr
      go_upto_if 20 with (go_at_call 123; refine (unhide KW _).mono ?_; rintro e w3 ⟨rfl, hb3⟩)
      have hb3' : Below w2.heap.size w2 w3 := hb3
      have HZ3 : Hid (w3.heap[w.heap.size + 1 + 1]? = some (.cells #[.int .i64 0, .int .i64 0] 151 (0, 0))) := (hb3'.block _ hz2).trans (unhide hz)
      have HB3 : Hid (Below w.heap.size w w3) := (unhide HB).trans (hb3'.mono (unhide HB).size)
      have hfz3 : ∀ o, w3.frozen? ⟨w.heap.size + 1 + 1, o, none⟩ = false := fun o => by
        have h := unhide HZ3
        simp [World.frozen?, h]
      have hx3 := (unhide HX).below hb3' (by omega)
      have hf3 := (unhide HF2).below hb3' (by omega)
      have hr3 := (unhide HR2).below hb3' hz2
      clear hb3 hb3' q0 q1 q2 q3 c0 c1 r0 r1 hfz
      obtain ⟨q0, q1, q2, q3⟩ := hx3
      obtain ⟨c0, c1⟩ := hf3
      obtain ⟨r0, r1⟩ := hr3
      go_wp2_with fail
      refine bodyPost_ret (results_cell_row rfl _ _ (w.heap.size + 1 + 1) 151 _ (0, 0) _ rfl (res2 (unhide HZ3) _ _) Tryd.underlying151 rfl Tryd.size151) rfl ?_
      exact ⟨by rw [unhide HR], below_two (unhide HB3) (by omega) _ _⟩
    · have HBX := hide (show behF x v f = if (x.op = 12 ∨ x.op = 13 ∨ x.op = 14) ∧ x.d = v then (if x.op = 12 then ⟨3, x.a⟩ else if x.op = 13 then ⟨2, x.a⟩ else f1) else f by unfold behF; rw [if_neg h0, if_neg (fun h => hwr h.2)])
      have hwr' : wrB x f.a = false := by cases h : wrB x f.a; rfl; exact absurd h hwr
      rw [hwr'] at KW
      clear h0 h3 hwr hwr'
      go_upto_if 20 with (go_at_call 123; refine (unhide KW _).mono ?_; rintro e w3 ⟨rfl, hb3⟩)
      have hb3' : Below w2.heap.size w2 w3 := hb3
      have HZ3 : Hid (w3.heap[w.heap.size + 1 + 1]? = some (.cells #[.int .i64 0, .int .i64 0] 151 (0, 0))) := (hb3'.block _ hz2).trans (unhide hz)
      have HB3 : Hid (Below w.heap.size w w3) := (unhide HB).trans (hb3'.mono (unhide HB).size)
      have hfz3 : ∀ o, w3.frozen? ⟨w.heap.size + 1 + 1, o, none⟩ = false := fun o => by
        have h := unhide HZ3
        simp [World.frozen?, h]
      have hx3 := (unhide HX).below hb3' (by omega)
      have hf3 := (unhide HF2).below hb3' (by omega)
      have hr3 := (unhide HR2).below hb3' hz2
      clear hb3 hb3' q0 q1 q2 q3 c0 c1 r0 r1 hfz
      obtain ⟨q0, q1, q2, q3⟩ := hx3
      obtain ⟨c0, c1⟩ := hf3
      obtain ⟨r0, r1⟩ := hr3
      by_cases hn : (x.op = 12 ∨ x.op = 13 ∨ x.op = 14) ∧ x.d = v
      · obtain ⟨ho, hd⟩ := hn
        rw [hd] at q1
        rcases ho with ho | ho | ho
        · have HR := hide (show (behF x v f).v = .agg #[.int .i64 3, .int .i64 x.a] by rw [unhide HBX, if_pos ⟨by omega, hd⟩, if_pos ho]; rfl)
          rw [ho] at q0
          clear ho hd
          go_wp2_with fail
          refine bodyPost_ret (results_cell_row rfl _ _ (w.heap.size + 1 + 1) 151 _ (0, 0) _ rfl (res2 (unhide HZ3) _ _) Tryd.underlying151 rfl Tryd.size151) rfl ?_
          exact ⟨by rw [unhide HR], below_two (unhide HB3) (by omega) _ _⟩
        · have HR := hide (show (behF x v f).v = .agg #[.int .i64 2, .int .i64 x.a] by rw [unhide HBX, if_pos ⟨by omega, hd⟩, if_neg (by omega), if_pos ho]; rfl)
          rw [ho] at q0
          clear ho hd
          go_wp2_with fail
          refine bodyPost_ret (results_cell_row rfl _ _ (w.heap.size + 1 + 1) 151 _ (0, 0) _ rfl (res2 (unhide HZ3) _ _) Tryd.underlying151 rfl Tryd.size151) rfl ?_
          exact ⟨by rw [unhide HR], below_two (unhide HB3) (by omega) _ _⟩
        · have HR := hide (show (behF x v f).v = .agg #[.int .i64 1, .int .i64 0] by rw [unhide HBX, if_pos ⟨by omega, hd⟩, if_neg (by omega), if_neg (by omega)]; rfl)
          rw [ho] at q0
          clear ho hd
          go_wp2_with fail
          refine bodyPost_ret (results_cell_row rfl _ _ (w.heap.size + 1 + 1) 151 _ (0, 0) _ rfl (res2 (unhide HZ3) _ _) Tryd.underlying151 rfl Tryd.size151) rfl ?_
          exact ⟨by rw [unhide HR], below_two (unhide HB3) (by omega) _ _⟩
      · have HR := hide (show (behF x v f).v = .agg #[.int .i64 f.k, .int .i64 f.a] by rw [unhide HBX, if_neg hn]; rfl)
        by_cases hd : x.d = v
        · have ho12 : (x.op == 12) = false := by rw [beq_eq_false_iff_ne]; exact fun e => hn ⟨.inl e, hd⟩
          have ho13 : (x.op == 13) = false := by rw [beq_eq_false_iff_ne]; exact fun e => hn ⟨.inr (.inl e), hd⟩
          have ho14 : (x.op == 14) = false := by rw [beq_eq_false_iff_ne]; exact fun e => hn ⟨.inr (.inr e), hd⟩
          clear hn hd
          go_wp2_with fail
          refine bodyPost_ret (results_cell_row rfl _ _ (w.heap.size + 1 + 1) 151 _ (0, 0) _ rfl (res2 (unhide HZ3) _ _) Tryd.underlying151 rfl Tryd.size151) rfl ?_
          exact ⟨by rw [unhide HR], below_two (unhide HB3) (by omega) _ _⟩
        · have hdv : (x.d != v) = true := by rw [bne_iff_ne]; exact hd
          clear hn hd
          by_cases ho : x.op = 12 ∨ x.op = 13 ∨ x.op = 14
          · rcases ho with ho | ho | ho
            all_goals
              rw [ho] at q0
              clear ho
              go_wp2_with fail
              refine bodyPost_ret (results_cell_row rfl _ _ (w.heap.size + 1 + 1) 151 _ (0, 0) _ rfl (res2 (unhide HZ3) _ _) Tryd.underlying151 rfl Tryd.size151) rfl ?_
              exact ⟨by rw [unhide HR], below_two (unhide HB3) (by omega) _ _⟩
          · have ho12 : (x.op == 12) = false := by rw [beq_eq_false_iff_ne]; omega
            have ho13 : (x.op == 13) = false := by rw [beq_eq_false_iff_ne]; omega
            have ho14 : (x.op == 14) = false := by rw [beq_eq_false_iff_ne]; omega
            clear ho
            go_wp2_with fail
            refine bodyPost_ret (results_cell_row rfl _ _ (w.heap.size + 1 + 1) 151 _ (0, 0) _ rfl (res2 (unhide HZ3) _ _) Tryd.underlying151 rfl Tryd.size151) rfl ?_
            exact ⟨by rw [unhide HR], below_two (unhide HB3) (by omega) _ _⟩
  · have HBX := hide (show behF x v f = if (x.op = 12 ∨ x.op = 13 ∨ x.op = 14) ∧ x.d = v then (if x.op = 12 then ⟨3, x.a⟩ else if x.op = 13 then ⟨2, x.a⟩ else f1) else f by unfold behF; rw [if_neg h0, if_neg (fun h => h3 h.1)])
    have g3 : (f.k == 3) = false := by rw [beq_eq_false_iff_ne]; exact h3
    clear h0 h3
    go_upto_if 20 with fail
    by_cases hn : (x.op = 12 ∨ x.op = 13 ∨ x.op = 14) ∧ x.d = v
    · obtain ⟨ho, hd⟩ := hn
      rw [hd] at q1
      rcases ho with ho | ho | ho
      · have HR := hide (show (behF x v f).v = .agg #[.int .i64 3, .int .i64 x.a] by rw [unhide HBX, if_pos ⟨by omega, hd⟩, if_pos ho]; rfl)
        rw [ho] at q0
        clear ho hd
        go_wp2_with fail
        refine bodyPost_ret (results_cell_row rfl _ _ (w.heap.size + 1 + 1) 151 _ (0, 0) _ rfl (res2 (unhide hz) _ _) Tryd.underlying151 rfl Tryd.size151) rfl ?_
        exact ⟨by rw [unhide HR], below_two (unhide HBB) (by omega) _ _⟩
      · have HR := hide (show (behF x v f).v = .agg #[.int .i64 2, .int .i64 x.a] by rw [unhide HBX, if_pos ⟨by omega, hd⟩, if_neg (by omega), if_pos ho]; rfl)
        rw [ho] at q0
        clear ho hd
        go_wp2_with fail
        refine bodyPost_ret (results_cell_row rfl _ _ (w.heap.size + 1 + 1) 151 _ (0, 0) _ rfl (res2 (unhide hz) _ _) Tryd.underlying151 rfl Tryd.size151) rfl ?_
        exact ⟨by rw [unhide HR], below_two (unhide HBB) (by omega) _ _⟩
      · have HR := hide (show (behF x v f).v = .agg #[.int .i64 1, .int .i64 0] by rw [unhide HBX, if_pos ⟨by omega, hd⟩, if_neg (by omega), if_neg (by omega)]; rfl)
        rw [ho] at q0
        clear ho hd
        go_wp2_with fail
        refine bodyPost_ret (results_cell_row rfl _ _ (w.heap.size + 1 + 1) 151 _ (0, 0) _ rfl (res2 (unhide hz) _ _) Tryd.underlying151 rfl Tryd.size151) rfl ?_
        exact ⟨by rw [unhide HR], below_two (unhide HBB) (by omega) _ _⟩
    · have HR := hide (show (behF x v f).v = .agg #[.int .i64 f.k, .int .i64 f.a] by rw [unhide HBX, if_neg hn]; rfl)
      by_cases hd : x.d = v
      · have ho12 : (x.op == 12) = false := by rw [beq_eq_false_iff_ne]; exact fun e => hn ⟨.inl e, hd⟩
        have ho13 : (x.op == 13) = false := by rw [beq_eq_false_iff_ne]; exact fun e => hn ⟨.inr (.inl e), hd⟩
        have ho14 : (x.op == 14) = false := by rw [beq_eq_false_iff_ne]; exact fun e => hn ⟨.inr (.inr e), hd⟩
        clear hn hd
        go_wp2_with fail
        refine bodyPost_ret (results_cell_row rfl _ _ (w.heap.size + 1 + 1) 151 _ (0, 0) _ rfl (res2 (unhide hz) _ _) Tryd.underlying151 rfl Tryd.size151) rfl ?_
        exact ⟨by rw [unhide HR], below_two (unhide HBB) (by omega) _ _⟩
      · have hdv : (x.d != v) = true := by rw [bne_iff_ne]; exact hd
        clear hn hd
        by_cases ho : x.op = 12 ∨ x.op = 13 ∨ x.op = 14
        · rcases ho with ho | ho | ho
          all_goals
            rw [ho] at q0
            clear ho
            go_wp2_with fail
            refine bodyPost_ret (results_cell_row rfl _ _ (w.heap.size + 1 + 1) 151 _ (0, 0) _ rfl (res2 (unhide hz) _ _) Tryd.underlying151 rfl Tryd.size151) rfl ?_
            exact ⟨by rw [unhide HR], below_two (unhide HBB) (by omega) _ _⟩
        · have ho12 : (x.op == 12) = false := by rw [beq_eq_false_iff_ne]; omega
          have ho13 : (x.op == 13) = false := by rw [beq_eq_false_iff_ne]; omega
          have ho14 : (x.op == 14) = false := by rw [beq_eq_false_iff_ne]; omega
          clear ho
          go_wp2_with fail
          refine bodyPost_ret (results_cell_row rfl _ _ (w.heap.size + 1 + 1) 151 _ (0, 0) _ rfl (res2 (unhide hz) _ _) Tryd.underlying151 rfl Tryd.size151) rfl ?_
          exact ⟨by rw [unhide HR], below_two (unhide HBB) (by omega) _ _⟩
end Go.Proofs.YtoepcplbpochpaaDoor

/-
  Where two ways come together: lodge.meet.
-/
namespace Go.Proofs.YtoepcplbpochpaaDoor
open Go.RowKit

theorem open_met (w : World) (f g : Ft) : ∃ w2, w2 = ((w.alloc (.cells #[.int .i64 f.k, .int .i64 f.a] 151)).alloc (.cells #[.int .i64 g.k, .int .i64 g.a] 151)).alloc (.cells #[.int .i64 0, .int .i64 0] 151) ∧
    At2 w2 w.heap.size 0 f ∧ At2 w2 (w.heap.size + 1) 0 g ∧ At2 w2 (w.heap.size + 1 + 1) 0 f0 ∧ Hid (Below w.heap.size w w2) ∧ (∀ o, w2.frozen? ⟨w.heap.size + 1 + 1, o, none⟩ = false) ∧ Hid (w2.heap[w.heap.size + 1 + 1]? = some (.cells #[.int .i64 0, .int .i64 0] 151 (0, 0))) := by
  have hb1 := below_alloc w (.cells #[.int .i64 f.k, .int .i64 f.a] 151)
  obtain ⟨w1, hw1⟩ : ∃ w1, w1 = w.alloc (.cells #[.int .i64 f.k, .int .i64 f.a] 151) := ⟨_, rfl⟩
  have hq : At2 w1 w.heap.size 0 f := by rw [hw1]; exact at2_new w f _ rfl
  rw [← hw1] at hb1
  have hz' : w1.heap.size = w.heap.size + 1 := by rw [hw1]; simp
  have hb2 := below_alloc w1 (.cells #[.int .i64 g.k, .int .i64 g.a] 151)
  have hb3 := below_alloc (w1.alloc (.cells #[.int .i64 g.k, .int .i64 g.a] 151)) (.cells #[.int .i64 0, .int .i64 0] 151)
  have hs2 : (w1.alloc (.cells #[.int .i64 g.k, .int .i64 g.a] 151)).heap.size = w.heap.size + 1 + 1 := by simp [hz']
  refine ⟨_, rfl, ?_, ?_, ?_, ?_, ?_, ?_⟩
  all_goals rw [← hw1]
  · exact (hq.below hb2 (by omega)).below hb3 (by omega)
  · exact (at2_new w1 g (w.heap.size + 1) hz'.symm).below hb3 (by omega)
  · exact at2_new _ f0 _ hs2.symm
  · exact (hb1.trans (hb2.mono (by omega))).trans (hb3.mono (by omega))
  · intro o
    have h := at_alloc (w1.alloc (.cells #[.int .i64 g.k, .int .i64 g.a] 151)) (w.heap.size + 1 + 1) (.cells #[.int .i64 0, .int .i64 0] 151) hs2.symm
    simp [World.frozen?, h]
  · exact at_alloc (w1.alloc (.cells #[.int .i64 g.k, .int .i64 g.a] 151)) (w.heap.size + 1 + 1) (.cells #[.int .i64 0, .int .i64 0] 151) hs2.symm

set_option maxRecDepth 100000 in
set_option maxHeartbeats 8000000 in
theorem meet_any (f g : Ft) (w : World) :
    Calls Tryd.prog 140 #[.agg #[.int .i64 f.k, .int .i64 f.a], .agg #[.int .i64 g.k, .int .i64 g.a]] w fun e w' => e = .returned (metF f g).v ∧ Below w.heap.size w w' := by
  obtain ⟨w2, hw2, hf, hg, hr, HB, hfz, hz⟩ := open_met w f g
  have HW := hide hw2
  obtain ⟨q0, q1⟩ := hf
  obtain ⟨c0, c1⟩ := hg
  obtain ⟨r0, r1⟩ := hr
  clear hw2
  go_enter Tryd.func140, Tryd.ntmps140
  go_upto_region 1 with fail
  rw [← unhide HW]
  by_cases h0 : f.k = 0
  · have HR := hide (show (metF f g).v = .agg #[.int .i64 g.k, .int .i64 g.a] by unfold metF; rw [if_pos h0]; rfl)
    rw [h0] at q0
    clear h0
    go_wp2_with fail
    refine bodyPost_ret (results_cell_row rfl _ _ (w.heap.size + 1 + 1) 151 _ (0, 0) _ rfl (res2 (unhide hz) _ _) Tryd.underlying151 rfl Tryd.size151) rfl ?_
    exact ⟨by rw [unhide HR], below_two (unhide HB) (by omega) _ _⟩
  have g0 : (f.k == 0) = false := by rw [beq_eq_false_iff_ne]; exact h0
  by_cases h1 : g.k = 0
  · have HR := hide (show (metF f g).v = .agg #[.int .i64 f.k, .int .i64 f.a] by unfold metF; rw [if_neg h0, if_pos (.inl h1)]; rfl)
    rw [h1] at c0
    clear h0 h1
    go_wp2_with fail
    refine bodyPost_ret (results_cell_row rfl _ _ (w.heap.size + 1 + 1) 151 _ (0, 0) _ rfl (res2 (unhide hz) _ _) Tryd.underlying151 rfl Tryd.size151) rfl ?_
    exact ⟨by rw [unhide HR], below_two (unhide HB) (by omega) _ _⟩
  have g1 : (g.k == 0) = false := by rw [beq_eq_false_iff_ne]; exact h1
  by_cases h2 : f.k = g.k ∧ f.a = g.a
  · have HR := hide (show (metF f g).v = .agg #[.int .i64 f.k, .int .i64 f.a] by unfold metF; rw [if_neg h0, if_pos (.inr h2)]; rfl)
    obtain ⟨h2, h3⟩ := h2
    have e1 : (f.k == g.k) = true := by rw [beq_iff_eq]; exact h2
    have e2 : (f.a == g.a) = true := by rw [beq_iff_eq]; exact h3
    clear h0 h1 h2 h3
    go_wp2_with fail
    refine bodyPost_ret (results_cell_row rfl _ _ (w.heap.size + 1 + 1) 151 _ (0, 0) _ rfl (res2 (unhide hz) _ _) Tryd.underlying151 rfl Tryd.size151) rfl ?_
    exact ⟨by rw [unhide HR], below_two (unhide HB) (by omega) _ _⟩
  · have HR := hide (show (metF f g).v = .agg #[.int .i64 1, .int .i64 0] by unfold metF; rw [if_neg h0, if_neg (fun h => h.elim h1 h2)]; rfl)
    by_cases h3 : f.k = g.k
    · have e1 : (f.k == g.k) = true := by rw [beq_iff_eq]; exact h3
      have e2 : (f.a == g.a) = false := by rw [beq_eq_false_iff_ne]; exact fun e => h2 ⟨h3, e⟩
      clear h0 h1 h2 h3
      go_wp2_with fail
      refine bodyPost_ret (results_cell_row rfl _ _ (w.heap.size + 1 + 1) 151 _ (0, 0) _ rfl (res2 (unhide hz) _ _) Tryd.underlying151 rfl Tryd.size151) rfl ?_
      exact ⟨by rw [unhide HR], below_two (unhide HB) (by omega) _ _⟩
    · have e1 : (f.k == g.k) = false := by rw [beq_eq_false_iff_ne]; exact h3
      clear h0 h1 h2 h3
      go_wp2_with fail
      refine bodyPost_ret (results_cell_row rfl _ _ (w.heap.size + 1 + 1) 151 _ (0, 0) _ rfl (res2 (unhide hz) _ _) Tryd.underlying151 rfl Tryd.size151) rfl ?_
      exact ⟨by rw [unhide HR], below_two (unhide HB) (by omega) _ _⟩
end Go.Proofs.YtoepcplbpochpaaDoor

/-
  What is known is brought to the instructions that may come next: (*lodge.factList).spread.
-/
namespace Go.Proofs.YtoepcplbpochpaaDoor
open Go.RowKit

/-- What is known of four variables at forty places. -/
def factV (h : Nat → Nat → Ft) : Nat → Value := fun o => if o % 2 = 0 then .int .i64 (h (o / 8) (o / 2 % 4)).k else .int .i64 (h (o / 8) (o / 2 % 4)).a
theorem fcell {w : World} {B T n : Nat} {h : Nat → Nat → Ft} (hB : Rowd w B T n (factV h)) {i v : Nat} (hv : v < 4) (ho : i * 8 + v * 2 + 1 < n) : At2 w B (i * 8 + v * 2) (h i v) := by
  refine ⟨?_, ?_⟩
  · rw [hB.cell (by omega)]; unfold factV; rw [if_pos (by omega), show (i * 8 + v * 2) / 8 = i by omega, show (i * 8 + v * 2) / 2 % 4 = v by omega]
  · rw [hB.cell (by omega)]; unfold factV; rw [if_neg (by omega), show (i * 8 + v * 2 + 1) / 8 = i by omega, show (i * 8 + v * 2 + 1) / 2 % 4 = v by omega]
theorem fset {w : World} {B T n : Nat} {h h' : Nat → Nat → Ft} (hB : Rowd w B T n (factV h)) {i v : Nat} (hv : v < 4) {f : Ft} (hh : ∀ j q, q < 4 → h' j q = if j = i ∧ q = v then f else h j q) :
    Rowd ((w.setCell ⟨B, i * 8 + v * 2, none⟩ (.int .i64 f.k)).setCell ⟨B, i * 8 + v * 2 + 1, none⟩ (.int .i64 f.a)) B T n (factV h') := by
  refine ((hB.set (i * 8 + v * 2) (.int .i64 f.k)).set (i * 8 + v * 2 + 1) (.int .i64 f.a)).congr (fun o ho => ?_)
  unfold factV
  rw [hh (o / 8) (o / 2 % 4) (by omega)]
  by_cases e1 : o = i * 8 + v * 2 + 1
  · subst e1; rw [if_pos rfl, if_neg (by omega), if_pos ⟨by omega, by omega⟩]
  rw [if_neg e1]
  by_cases e2 : o = i * 8 + v * 2
  · subst e2; rw [if_pos rfl, if_pos (by omega), if_pos ⟨by omega, by omega⟩]
  rw [if_neg e2]
  by_cases e3 : o % 2 = 0
  · rw [if_pos e3, if_pos e3, if_neg (by omega)]
  · rw [if_neg e3, if_neg e3, if_neg (by omega)]

/-- A spreading that has come to the variable k. -/
def spTo (L : List In4) (i : Nat) (h : Nat → Nat → Ft) (k : Nat) : Nat → Nat → Ft := fun j v => if v < k then sprF L v i (fun j => h j v) j else h j v
/-- One variable alone. -/
def putV (h : Nat → Nat → Ft) (k : Nat) (g : Nat → Ft) : Nat → Nat → Ft := fun j v => if v = k then g j else h j v
theorem spTo_here (L : List In4) (i : Nat) (h : Nat → Nat → Ft) (k : Nat) : spTo L i h k = putV (spTo L i h k) k (fun j => h j k) := by
  funext j v; unfold putV
  by_cases e : v = k
  · subst e; rw [if_pos rfl]; unfold spTo; rw [if_neg (by omega)]
  · rw [if_neg e]
theorem spTo_step (L : List In4) (i : Nat) (h : Nat → Nat → Ft) (k : Nat) : spTo L i h (k + 1) = putV (spTo L i h k) k (sprF L k i (fun j => h j k)) := by
  funext j v; unfold putV spTo
  by_cases e : v = k
  · subst e; rw [if_pos (by omega), if_pos rfl]
  · rw [if_neg e]
    by_cases h' : v < k
    · rw [if_pos h', if_pos (by omega)]
    · rw [if_neg h', if_neg (by omega)]
theorem putV_bring {h : Nat → Nat → Ft} {k : Nat} {g : Nat → Ft} {f : Ft} {p : Nat} (j v : Nat) : putV h k (bring (p : Int) f g) j v = if j = p ∧ v = k then metF (g p) f else putV h k g j v := by
  unfold putV bring
  by_cases e : v = k
  · rw [if_pos e, if_neg (by omega), if_pos e, Int.toNat_natCast]
    by_cases ej : j = p
    · rw [if_pos ej, if_pos ⟨ej, e⟩, ej]
    · rw [if_neg ej, if_neg (fun h => ej h.1)]
  · rw [if_neg e, if_neg (fun h => e h.2), if_neg e]

set_option maxRecDepth 100000 in
set_option maxHeartbeats 8000000 in
theorem spread_any (L : List In4) (i : Nat) (hi : i < 40) (h1 : nx1 (inAt L i) i = -1 ∨ (0 ≤ nx1 (inAt L i) i ∧ nx1 (inAt L i) i < 40)) (h2 : nx2 (inAt L i) i = -1 ∨ (0 ≤ nx2 (inAt L i) i ∧ nx2 (inAt L i) i < 40))
    (B : Nat) (h : Nat → Nat → Ft) (w : World) (hB : Rowd w B 155 320 (factV h)) :
    Calls Tryd.prog 131 #[.pointer (some ⟨B, 0, none⟩), .agg #[.int .i64 (inAt L i).op, .int .i64 (inAt L i).d, .int .i64 (inAt L i).a, .int .i64 (inAt L i).b], .int .i64 i] w fun e w' =>
      e = .returned (.tuple #[]) ∧ Rowd w' B 155 320 (factV (spTo L i h 4)) ∧ Keep (fun k => k = B) w w' := by
  have KN := hide (nextOf_any (inAt L i) i (by omega))
  have KB := hide (fun v f => behind_any (inAt L i) v f)
  have KM := hide meet_any
  have HSP := hide (fun k => spTo_step L i h k)
  have HSH := hide (fun k => spTo_here L i h k)
  have HSD := hide (show ∀ k : Nat, sprF L k i (fun j => h j k) = bring (nx2 (inAt L i) i) (behF (inAt L i) k (h i k)) (bring (nx1 (inAt L i) i) (behF (inAt L i) k (h i k)) (fun j => h j k)) from fun _ => rfl)
  have HOL := hide (show ∀ k j, spTo L i h k j k = h j k from fun k j => by unfold spTo; rw [if_neg (by omega)])
  obtain ⟨a, ha⟩ : ∃ a, a = nx1 (inAt L i) i := ⟨_, rfl⟩
  obtain ⟨b, hb⟩ : ∃ b, b = nx2 (inAt L i) i := ⟨_, rfl⟩
  rw [← ha] at h1 HSD KN
  rw [← hb] at h2 HSD KN
  have HB := hide hB
  obtain ⟨x, hx⟩ : ∃ x, x = inAt L i := ⟨_, rfl⟩
  rw [← hx] at KB HSD KN ⊢
  clear ha hb hx hB
  obtain ⟨w1, hw1, hq1, HB1, hz1⟩ := box4 w x
  have HW1 := hide hw1
  have hne : w.heap.size ≠ B := by have := (unhide HB).lt; omega
  have HG1 : Hid (Rowd w1 B 155 320 (factV (spTo L i h 0))) := (unhide HB).below (unhide HB1)
  have HK1 : Hid (Keep (fun k => k = B) w w1) := Keep.of_below (unhide HB1) _
  have HQ1 := hide hq1
  obtain ⟨q0, q1, q2, q3⟩ := hq1
  clear hw1 HB HB1
  go_enter Tryd.func131, Tryd.ntmps131
  go_wp2_with fail
  rw [← unhide HW1]
  go_wp2_with fail
  refine (unhide KN w1).mono ?_
  rintro e w2 ⟨rfl, hb2⟩
  have HQ2 : Hid (At4 w2 w.heap.size 0 x) := (unhide HQ1).below hb2 hz1
  have HG2 := hide ((unhide HG1).below hb2)
  have HK2 : Hid (Keep (fun k => k = B) w w2) := (unhide HK1).trans (Keep.of_below hb2 (fun _ => False)) (fun _ _ h => h.elim)
  have hz2 : w.heap.size < w2.heap.size := Nat.lt_of_lt_of_le hz1 hb2.size
  clear hb2 q0 q1 q2 q3 HQ1 HG1 HK1 HW1 hz1 KN
  go_wp2_with fail
  go_loopw [8] (fun i' wr => ∃ k : Nat, k ≤ 4 ∧ i' = .int .i64 k ∧ Hid (Rowd wr B 155 320 (factV (spTo L i h k))) ∧ Hid (At4 wr w.heap.size 0 x) ∧ Hid (Keep (fun k => k = B) w wr) ∧ w.heap.size < wr.heap.size) (fun i' _ => 4 - (intOf i').toNat)
  case atStart => exact ⟨0, by omega, rfl, unhide HG2, unhide HQ2, unhide HK2, hz2⟩
  case round =>
    clear HQ2 HG2 HK2 hz2
    obtain ⟨k, hk, rfl, HG, HQ, HK, hz⟩ := hrel
    by_cases hlt : k < 4
    case neg =>
      obtain rfl : k = 4 := by omega
      go_wp2_with fail
      go_returns
      exact ⟨rfl, unhide HG, unhide HK⟩
    have hki : (k : Int) < 4 := by omega
    have hii : (i : Int) < 40 := by omega
    obtain ⟨q0, q1, q2, q3⟩ := unhide HQ
    obtain ⟨c0, c1⟩ := fcell (unhide HG) (i := i) (v := k) hlt (by omega)
    rw [unhide HOL k i] at c0 c1
    have hBw := (unhide HG).lt
    have KB' := hide (unhide KB k (h i k))
    obtain ⟨f, hf⟩ : ∃ f, f = behF x k (h i k) := ⟨_, rfl⟩
    rw [← hf] at KB'
    unfold Ft.v at KB'
    have HF := hide hf
    clear hf
    obtain ⟨fi, hfi⟩ : ∃ fi, fi = h i k := ⟨_, rfl⟩
    rw [← hfi] at KB' c0 c1
    clear hfi
    have hk1 : ∀ (wq : World) (j o : Nat) (z : Value), (wq.setCell ⟨wr.heap.size, j, none⟩ z).cell? ⟨w.heap.size, o, none⟩ = wq.cell? ⟨w.heap.size, o, none⟩ := fun wq j o z => World.cell?_setCell_other _ _ _ _ (fun e => by injection e with e1; omega)
    have hk2 : ∀ (wq : World) (j o : Nat) (z : Value), (wq.setCell ⟨wr.heap.size, j, none⟩ z).cell? ⟨B, o, none⟩ = wq.cell? ⟨B, o, none⟩ := fun wq j o z => World.cell?_setCell_other _ _ _ _ (fun e => by injection e with e1; omega)
    go_upto_region 5 with fail
    go_cut [9] from 16 to 68 (fun v9 wc => ∃ N : Nat, v9 = .pointer (some ⟨N, 0, none⟩) ∧ Hid (At2 wc N 0 f) ∧ Hid (Rowd wc B 155 320 (factV (spTo L i h k))) ∧ Hid (At4 wc w.heap.size 0 x) ∧ Hid (Keep (fun k => k = B) w wc) ∧ w.heap.size < wc.heap.size ∧ N ≠ B ∧ N < wc.heap.size)
    case first =>
      go_region_held3 (fun w' => w'.cell? ⟨w.heap.size, 0, none⟩ = some (.int .i64 x.op) ∧ w'.cell? ⟨w.heap.size, 1, none⟩ = some (.int .i64 x.d) ∧ w'.cell? ⟨w.heap.size, 2, none⟩ = some (.int .i64 x.a) ∧ w'.cell? ⟨w.heap.size, 3, none⟩ = some (.int .i64 x.b) ∧ w'.cell? ⟨B, i * 8 + k * 2, none⟩ = some (.int .i64 fi.k) ∧ w'.cell? ⟨B, i * 8 + k * 2 + 1, none⟩ = some (.int .i64 fi.a)) (first | go_keep | (simp [*]; done) | assumption)
        ((go_at_call 139; refine (unhide KB' _).mono ?_; rintro e w5 ⟨rfl, hb5⟩; first | (have HB5 : Hid (Below wr.heap.size wr w5) := ⟨hb5.os, hb5.tape, hb5.output, hb5.size, hb5.block⟩; clear hb5; have y5 := (unhide HQ).below (unhide HB5) hz; have z5 := (show At2 wr B (i * 8 + k * 2) fi from ⟨c0, c1⟩).below (unhide HB5) hBw; clear q0 q1 q2 q3 c0 c1; obtain ⟨q0, q1, q2, q3⟩ := y5; obtain ⟨c0, c1⟩ := z5; have hB5 : B < w5.heap.size := Nat.lt_of_lt_of_le hBw (unhide HB5).size; have hz5 : w.heap.size < w5.heap.size := Nat.lt_of_lt_of_le hz (unhide HB5).size) | (have HB5 : Hid (Below wr.heap.size wr w5) := ((below_alloc wr (.cells #[.int .i64 0, .int .i64 0] 151)).drew).trans (hb5.mono (by simp)); have HN5 : Hid (w5.heap[wr.heap.size]? = some (.cells #[.int .i64 0, .int .i64 0] 151 (0, 0))) := (hb5.block wr.heap.size (by simp)).trans (heap_alloc_new wr _); have n0 : w5.cell? ⟨wr.heap.size, 0, none⟩ = some (.int .i64 0) := (cell_of_row w5 _ 0 _ 151 (0, 0) (unhide HN5)).trans rfl; have n1 : w5.cell? ⟨wr.heap.size, 1, none⟩ = some (.int .i64 0) := (cell_of_row w5 _ 1 _ 151 (0, 0) (unhide HN5)).trans rfl; have nf : ∀ o, w5.frozen? ⟨wr.heap.size, o, none⟩ = false := (fun o => by have h := unhide HN5; simp [World.frozen?, h]); clear hb5; have y5 := (unhide HQ).below (unhide HB5) hz; have z5 := (show At2 wr B (i * 8 + k * 2) fi from ⟨c0, c1⟩).below (unhide HB5) hBw; clear q0 q1 q2 q3 c0 c1; obtain ⟨q0, q1, q2, q3⟩ := y5; obtain ⟨c0, c1⟩ := z5; have hB5 : B < w5.heap.size := Nat.lt_of_lt_of_le hBw (unhide HB5).size; have hz5 : w.heap.size < w5.heap.size := Nat.lt_of_lt_of_le hz (unhide HB5).size)))
      · have HP := hide (And.intro (at2_new w5 f w5.heap.size rfl) (And.intro (((unhide HG).below (unhide HB5)).below (below_alloc w5 (.cells #[.int .i64 f.k, .int .i64 f.a] 151))) (And.intro (((unhide HQ).below (unhide HB5) hz).below (below_alloc w5 (.cells #[.int .i64 f.k, .int .i64 f.a] 151)) hz5) (((unhide HK).trans (Keep.of_below (unhide HB5) (fun _ => False)) (fun _ _ h => h.elim)).alloc (.cells #[.int .i64 f.k, .int .i64 f.a] 151)))))
        clear q0 q1 q2 q3 c0 c1
        go_wp2_with fail
        go_meet
        case rel => exact ⟨w5.heap.size, rfl, (unhide HP).1, (unhide HP).2.1, (unhide HP).2.2.1, (unhide HP).2.2.2, by simp; omega, by omega, by simp⟩
      · obtain ⟨w6, hw6⟩ : ∃ w6, w6 = (w5.setCell ⟨wr.heap.size, 0, none⟩ (.int .i64 f.k)).setCell ⟨wr.heap.size, 1, none⟩ (.int .i64 f.a) := ⟨_, rfl⟩
        rw [← hw6]
        have hrow : w6.heap[wr.heap.size]? = some (.cells #[.int .i64 f.k, .int .i64 f.a] 151 (0, 0)) := by rw [hw6]; exact res2 (unhide HN5) _ _
        have hoth : ∀ j, j ≠ wr.heap.size → w6.heap[j]? = w5.heap[j]? := fun j hj => by rw [hw6]; exact (heap_setCell_other _ _ _ _ hj).trans (heap_setCell_other _ _ _ _ hj)
        have hk6 : Keep (fun j => j = wr.heap.size) w5 w6 := by rw [hw6]; exact keep_set (keep_set (Keep.refl _ _) _ _) _ _
        have HP := hide (And.intro (show At2 w6 wr.heap.size 0 f from ⟨(cell_of_row w6 _ 0 _ 151 (0, 0) hrow).trans rfl, (cell_of_row w6 _ 1 _ 151 (0, 0) hrow).trans rfl⟩) (And.intro (((unhide HG).below (unhide HB5)).of_block (hoth B (by omega))) (And.intro (show At4 w6 w.heap.size 0 x from ⟨(World.cell?_of_block (hoth w.heap.size (by omega))).trans q0, (World.cell?_of_block (hoth w.heap.size (by omega))).trans q1, (World.cell?_of_block (hoth w.heap.size (by omega))).trans q2, (World.cell?_of_block (hoth w.heap.size (by omega))).trans q3⟩) (((unhide HK).trans (Keep.of_below (unhide HB5) (fun _ => False)) (fun _ _ h => h.elim)).trans hk6 (fun j hj e => by have := (unhide HK).size; omega)))))
        have hz6 : wr.heap.size < w6.heap.size := (Array.getElem?_eq_some_iff.1 hrow).1
        clear q0 q1 q2 q3 c0 c1 n0 n1 nf hw6 hrow hoth hk6
        go_wp2_with fail
        go_meet
        case rel => exact ⟨wr.heap.size, rfl, (unhide HP).1, (unhide HP).2.1, (unhide HP).2.2.1, (unhide HP).2.2.2, by omega, by omega, hz6⟩
    case rest =>
    obtain ⟨N, rfl, HN, HGc, HQc, HKc, hzc, hNB, hNc⟩ := hcut
    clear q0 q1 q2 q3 c0 c1 HG HQ HK hk1 hk2 KB'
    obtain ⟨wa, rfl⟩ : ∃ wa, wa = wc := ⟨_, rfl⟩
    have hkB : ∀ (wq : World) (j o : Nat) (z : Value), (wq.setCell ⟨B, j, none⟩ z).cell? ⟨N, o, none⟩ = wq.cell? ⟨N, o, none⟩ := fun wq j o z => World.cell?_setCell_other _ _ _ _ (fun e => by injection e with e1; omega)
    have hkX : ∀ (wq : World) (j o : Nat) (z : Value), (wq.setCell ⟨B, j, none⟩ z).cell? ⟨w.heap.size, o, none⟩ = wq.cell? ⟨w.heap.size, o, none⟩ := fun wq j o z => World.cell?_setCell_other _ _ _ _ (fun e => by injection e with e1; omega)
    have HSS := hide (show spTo L i h (k + 1) = putV (spTo L i h k) k (bring b f (bring a f (fun j => h j k))) by rw [unhide HSP, unhide HSD, unhide HF])
    go_upto_if 32 with fail
    go_cut [8] from 16 to 68 (fun v8 wd => v8 = .int .i64 k ∧ Hid (Rowd wd B 155 320 (factV (putV (spTo L i h k) k (bring a f (fun j => h j k))))) ∧ Hid (At2 wd N 0 f) ∧ Hid (At4 wd w.heap.size 0 x) ∧ Hid (Keep (fun k => k = B) w wd) ∧ w.heap.size < wd.heap.size ∧ N < wd.heap.size)
    case first =>
      rcases h1 with rfl | ⟨g1, g2⟩
      · have HR : Hid (Rowd wa B 155 320 (factV (putV (spTo L i h k) k (bring (-1) f (fun j => h j k))))) := by
          have := unhide HGc
          rw [unhide HSH k] at this
          exact this
        go_wp2_with fail
        go_meet
        case rel => exact ⟨rfl, unhide HR, unhide HN, unhide HQc, unhide HKc, hzc, hNc⟩
      obtain ⟨p, rfl⟩ : ∃ p : Nat, a = p := ⟨a.toNat, by omega⟩
      have hp1 : ((p : Int) != -1) = true := by rw [bne_iff_ne]; omega
      have c := fcell (unhide HGc) (i := p) (v := k) hlt (by omega)
      obtain ⟨gp, hgp⟩ : ∃ gp, gp = spTo L i h k p k := ⟨_, rfl⟩
      rw [← hgp] at c
      have HGP := hide hgp
      have HC := hide c
      obtain ⟨c0, c1⟩ := c
      obtain ⟨e0, e1⟩ := unhide HN
      have hpi : (p : Int) < 40 := by omega
      have hBc := (unhide HGc).lt
      obtain ⟨m, hm⟩ : ∃ m, m = metF gp f := ⟨_, rfl⟩
      have KM' := hide (unhide KM gp f)
      rw [← hm] at KM'
      unfold Ft.v at KM'
      have HM := hide hm
      clear hgp hm
      go_upto_region 7 with fail
      go_region_with ((go_at_call 140; refine (unhide KM' _).mono ?_; rintro e w5 ⟨rfl, hb5⟩; have HB5 : Hid (Below wa.heap.size wa w5) := ⟨hb5.os, hb5.tape, hb5.output, hb5.size, hb5.block⟩; clear hb5; have z5 := (unhide HC).below (unhide HB5) hBc; have y5 := (unhide HN).below (unhide HB5) hNc; have HG5 := hide ((unhide HGc).below (unhide HB5)); have hf5 := (unhide HG5).free; clear c0 c1 e0 e1; obtain ⟨c0, c1⟩ := z5; obtain ⟨e0, e1⟩ := y5))
      all_goals
        obtain ⟨w6, hw6⟩ : ∃ w6, w6 = (w5.setCell ⟨B, p * 8 + k * 2, none⟩ (.int .i64 m.k)).setCell ⟨B, p * 8 + k * 2 + 1, none⟩ (.int .i64 m.a) := ⟨_, rfl⟩
        rw [← hw6]
        have HR6 : Hid (Rowd w6 B 155 320 (factV (putV (spTo L i h k) k (bring (p : Int) f (fun j => h j k))))) := by
          rw [hw6]
          refine fset (unhide HG5) hlt (fun j q _ => ?_)
          rw [putV_bring, ← unhide HSH k, unhide HM, unhide HGP, unhide HOL]
        have HN6 : Hid (At2 w6 N 0 f) := by rw [hw6]; exact ⟨((hkB _ _ _ _).trans (hkB _ _ _ _)).trans e0, ((hkB _ _ _ _).trans (hkB _ _ _ _)).trans e1⟩
        have HQ6 : Hid (At4 w6 w.heap.size 0 x) := by
          obtain ⟨y0, y1, y2, y3⟩ := (unhide HQc).below (unhide HB5) hzc
          rw [hw6]
          exact ⟨((hkX _ _ _ _).trans (hkX _ _ _ _)).trans y0, ((hkX _ _ _ _).trans (hkX _ _ _ _)).trans y1, ((hkX _ _ _ _).trans (hkX _ _ _ _)).trans y2, ((hkX _ _ _ _).trans (hkX _ _ _ _)).trans y3⟩
        have HK6 : Hid (Keep (fun k => k = B) w w6) := by rw [hw6]; exact keep_set (keep_set ((unhide HKc).trans (Keep.of_below (unhide HB5) (fun _ => False)) (fun _ _ h => h.elim)) _ _) _ _
        have hs6 : wa.heap.size ≤ w6.heap.size := by rw [hw6]; simp; exact (unhide HB5).size
        clear hw6 c0 c1 e0 e1 hf5 HG5
        go_wp2_with fail
        go_meet
        case rel => exact ⟨rfl, unhide HR6, unhide HN6, unhide HQ6, unhide HK6, by omega, by omega⟩
    case rest =>
    obtain ⟨rfl, HGd, HNd, HQd, HKd, hzd, hNd⟩ := hcut
    clear HGc HN HQc HKc hzc hNc
    rcases h2 with rfl | ⟨g1, g2⟩
    · have HR : Hid (Rowd wc B 155 320 (factV (spTo L i h (k + 1)))) := by rw [unhide HSS]; exact unhide HGd
      go_wp2_with fail
      go_roundw
      case rel => exact ⟨k + 1, by omega, by go_num, unhide HR, unhide HQd, unhide HKd, hzd⟩
      case measure => simp [intOf]; omega
    · obtain ⟨p, rfl⟩ : ∃ p : Nat, b = p := ⟨b.toNat, by omega⟩
      have hp1 : ((p : Int) != -1) = true := by rw [bne_iff_ne]; omega
      have c := fcell (unhide HGd) (i := p) (v := k) hlt (by omega)
      obtain ⟨gp, hgp⟩ : ∃ gp, gp = (putV (spTo L i h k) k (bring a f (fun j => h j k))) p k := ⟨_, rfl⟩
      rw [← hgp] at c
      have HGP := hide hgp
      have HC := hide c
      obtain ⟨c0, c1⟩ := c
      obtain ⟨e0, e1⟩ := unhide HNd
      have hpi : (p : Int) < 40 := by omega
      have hBc := (unhide HGd).lt
      obtain ⟨m, hm⟩ : ∃ m, m = metF gp f := ⟨_, rfl⟩
      have KM' := hide (unhide KM gp f)
      rw [← hm] at KM'
      unfold Ft.v at KM'
      have HM := hide hm
      clear hgp hm
      go_upto_region 9 with fail
      go_region_with ((go_at_call 140; refine (unhide KM' _).mono ?_; rintro e w5 ⟨rfl, hb5⟩; have HB5 : Hid (Below wc.heap.size wc w5) := ⟨hb5.os, hb5.tape, hb5.output, hb5.size, hb5.block⟩; clear hb5; have z5 := (unhide HC).below (unhide HB5) hBc; have y5 := (unhide HNd).below (unhide HB5) hNd; have HG5 := hide ((unhide HGd).below (unhide HB5)); have hf5 := (unhide HG5).free; clear c0 c1 e0 e1; obtain ⟨c0, c1⟩ := z5; obtain ⟨e0, e1⟩ := y5))
      all_goals
        obtain ⟨w6, hw6⟩ : ∃ w6, w6 = (w5.setCell ⟨B, p * 8 + k * 2, none⟩ (.int .i64 m.k)).setCell ⟨B, p * 8 + k * 2 + 1, none⟩ (.int .i64 m.a) := ⟨_, rfl⟩
        rw [← hw6]
        have HR6 : Hid (Rowd w6 B 155 320 (factV (spTo L i h (k + 1)))) := by
          rw [hw6]
          refine fset (unhide HG5) hlt (fun j q _ => ?_)
          rw [unhide HSS, putV_bring, unhide HM, unhide HGP]
          unfold putV
          rw [if_pos rfl]
        have HQ6 : Hid (At4 w6 w.heap.size 0 x) := by
          obtain ⟨y0, y1, y2, y3⟩ := (unhide HQd).below (unhide HB5) hzd
          rw [hw6]
          exact ⟨((hkX _ _ _ _).trans (hkX _ _ _ _)).trans y0, ((hkX _ _ _ _).trans (hkX _ _ _ _)).trans y1, ((hkX _ _ _ _).trans (hkX _ _ _ _)).trans y2, ((hkX _ _ _ _).trans (hkX _ _ _ _)).trans y3⟩
        have HK6 : Hid (Keep (fun k => k = B) w w6) := by rw [hw6]; exact keep_set (keep_set ((unhide HKd).trans (Keep.of_below (unhide HB5) (fun _ => False)) (fun _ _ h => h.elim)) _ _) _ _
        have hs6 : wc.heap.size ≤ w6.heap.size := by rw [hw6]; simp; exact (unhide HB5).size
        clear hw6 c0 c1 e0 e1 hf5 HG5
        go_wp2_with fail
        go_roundw
        case rel => exact ⟨k + 1, by omega, by go_num, unhide HR6, unhide HQ6, unhide HK6, by omega⟩
        case measure => simp [intOf]; omega
end Go.Proofs.YtoepcplbpochpaaDoor

/-
  What is known of each variable at each place: lodge.findFacts.
-/
namespace Go.Proofs.YtoepcplbpochpaaDoor
open Go.RowKit

theorem zero155 : Tryd.zeroCells155 = rowA 320 (factV (fun _ _ => f0)) := by kernel_rfl
theorem Tryd.size155 : (Tryd.prog.info? 155).map (·.size) = some 320 := by kernel_rfl
theorem factV_plain (h : Nat → Nat → Ft) : ∀ i, i < 320 → (factV h i).oneCell' = true := fun i _ => by unfold factV; split <;> rfl
theorem factV_eq {h h' : Nat → Nat → Ft} {o : Nat} (e : h (o / 8) (o / 2 % 4) = h' (o / 8) (o / 2 % 4)) : factV h o = factV h' o := by unfold factV; rw [e]
/-- Where nothing is known but that the first k variables have no value at the beginning. -/
def begF (k : Nat) : Nat → Nat → Ft := fun i v => if i = 0 ∧ v < k then f1 else f0

set_option maxRecDepth 100000 in
set_option maxHeartbeats 4000000 in
theorem findFacts_any (L : List In4) (ao : Option Addr) (cap : Nat) (w : World) (hH : HeldIns w ao L) (hL : Inside L) (hn1 : 1 ≤ L.length) (hn : L.length ≤ 40) :
    Calls Tryd.prog 101 #[.slice ao L.length cap] w fun e w' => e = .returned (.agg (rowA 320 (factV (factB L)))) ∧ Below w.heap.size w w' := by
  obtain ⟨b, off, rfl, hb, hI⟩ := held_at hH hn1
  have HI := hide hI
  have KS := hide (fun i (hi : i < L.length) B h w hB => spread_any L i (by omega) (by have := (hL i hi).1; omega) (by have := (hL i hi).2; omega) B h w hB)
  have HIT := hide (fun v m => (Chaos.iter_succ (upF L v L.length) m startF))
  clear hI hH hL
  go_enter Tryd.func101, Tryd.ntmps101
  go_wp2_with (refine wpList_store_row ?h1 155 ?h2 ?h3 ?h4 (w.heap.size + 1) ?h5 ?h6 ?h7 ?h8 ?h9 ?h10 ?h11 ?h12 ?h13 ?h14; case h4 => rfl)
  case h1 => rfl
  case h6 => rfl
  case h7 => rfl
  case h10 => exact two_new _ _ _
  case h11 => exact Tryd.size155
  case h12 => rfl
  case h13 => kernel_rfl
  rw [two_row, zero155]
  obtain ⟨w2, hw2, HA2, HB2, HL2⟩ := two_rows w 155 320 (factV (fun _ _ => f0)) (factV (fun _ _ => f0))
  rw [← hw2]
  clear hw2
  have HB2' : Hid (Rowd w2 (w.heap.size + 1) 155 320 (factV (begF 0))) := (unhide HB2).congr (fun o _ => factV_eq (show f0 = begF 0 (o / 8) (o / 2 % 4) by unfold begF; rw [if_neg (fun h => Nat.not_lt_zero _ h.2)]))
  go_wp2_with fail
  go_loopw [4] (fun i' wr => ∃ k : Nat, k ≤ 4 ∧ i' = .int .i64 k ∧ Hid (Rowd wr (w.heap.size + 1) 155 320 (factV (begF k))) ∧ Hid (Rowd wr w.heap.size 155 320 (factV (fun _ _ => f0))) ∧ Hid (Below w.heap.size w wr)) (fun i' _ => 4 - (intOf i').toNat)
  case atStart => exact ⟨0, by omega, rfl, unhide HB2', unhide HA2, unhide HL2⟩
  case round =>
    clear HB2 HB2' HA2 HL2
    obtain ⟨k, hk, rfl, HB, HA, HL⟩ := hrel
    by_cases hlt : k < 4
    · have hki : (k : Int) < 4 := by omega
      obtain ⟨c0, c1⟩ := fcell (unhide HB) (i := 0) (v := k) hlt (by omega)
      rw [Nat.zero_mul, Nat.zero_add] at c0 c1
      have hf : ∀ o, wr.frozen? ⟨w.heap.size + 1, o, none⟩ = false := (unhide HB).free
      have hst := fset (f := f1) (h' := begF (k + 1)) (unhide HB) (i := 0) (v := k) hlt (fun j q _ => by
        unfold begF
        by_cases e : j = 0 ∧ q = k
        · rw [if_pos e, if_pos ⟨e.1, by omega⟩]
        · rw [if_neg e]
          by_cases e' : j = 0 ∧ q < k
          · rw [if_pos e', if_pos ⟨e'.1, by omega⟩]
          · rw [if_neg e', if_neg (fun h => e' ⟨h.1, by have : q ≠ k := fun hq => e ⟨h.1, hq⟩; omega⟩)])
      rw [Nat.zero_mul, Nat.zero_add] at hst
      have HST := hide hst
      clear hst
      go_wp2_with fail
      go_roundw
      case rel => exact ⟨k + 1, by omega, by go_num, unhide HST, ((unhide HA).of_block (heap_setCell_other _ _ _ _ (show w.heap.size ≠ w.heap.size + 1 by omega))).of_block (heap_setCell_other _ _ _ _ (show w.heap.size ≠ w.heap.size + 1 by omega)), ((unhide HL).setCell (p := ⟨w.heap.size + 1, k * 2, none⟩) (show w.heap.size ≤ w.heap.size + 1 by omega) _).setCell (p := ⟨w.heap.size + 1, k * 2 + 1, none⟩) (show w.heap.size ≤ w.heap.size + 1 by omega) _⟩
      case measure => simp [intOf]; omega
    have hk4 : k = 4 := by omega
    have HB0 : Hid (Rowd wr (w.heap.size + 1) 155 320 (factV (fun i v => factM L v 0 i))) := by
      refine (unhide HB).congr (fun o ho => ?_)
      have e : begF k (o / 8) (o / 2 % 4) = factM L ((o / 2 % 4 : Nat) : Int) 0 (o / 8) := by
        show begF k (o / 8) (o / 2 % 4) = startF (o / 8)
        unfold begF startF
        by_cases h0 : o / 8 = 0
        · rw [if_pos ⟨h0, by omega⟩, if_pos h0]
        · rw [if_neg (fun h => h0 h.1), if_neg h0]
      exact factV_eq e
    clear HB hk4
    go_wp2_with fail
    obtain ⟨wo, rfl⟩ : ∃ wo, wo = wr := ⟨_, rfl⟩
    go_loopw [5] (fun i' wr => ∃ m : Nat, m ≤ 2 * L.length ∧ i' = .int .i64 m ∧ Hid (Rowd wr (w.heap.size + 1) 155 320 (factV (fun i v => factM L v m i))) ∧ Hid (Rowd wr w.heap.size 155 320 (factV (fun _ _ => f0))) ∧ Hid (Below w.heap.size w wr)) (fun i' _ => 2 * L.length - (intOf i').toNat)
    case atStart => exact ⟨0, by omega, rfl, unhide HB0, unhide HA, unhide HL⟩
    case round =>
      clear HB0 HA HL
      obtain ⟨m, hm, rfl, HB, HA, HL⟩ := hrel
      by_cases hlm : m < 2 * L.length
      case neg =>
        have hml : m = 2 * L.length := by omega
        have HB' : Hid (Rowd wr (w.heap.size + 1) 155 320 (factV (factB L))) := by rw [hml] at HB; exact unhide HB
        clear HB
        iterate 60 (first | (refine wpList_load_row rfl 155 _ rfl (w.heap.size + 1) rfl 155 _ (0, 0) _ (unhide HB') Tryd.underlying155 rfl (by rw [rowA_size]; exact Tryd.size155) ?_; refine wpList_store_row rfl 155 _ _ rfl w.heap.size (rowA 320 (factV (factB L))) rfl rfl 155 _ (unhide HA) (by rw [rowA_size]; exact Tryd.size155) (by rw [rowA_size, rowA_size]) (rowA_plain (factV_plain _)) ?_; clear HB') | go_values | go_skip | go_guarded | go_step | skip)
        go_wp2_with fail
        refine bodyPost_ret (results_cell_row rfl _ _ w.heap.size 155 _ (0, 0) _ rfl (setRow_heap wr w.heap.size _ _ 155 _ (unhide HA)) Tryd.underlying155 rfl (by rw [rowA_size]; exact Tryd.size155)) rfl ?_
        exact ⟨rfl, below_setRow (unhide HL) (Nat.le_refl _) _⟩
      have hlmi : (m : Int) < 2 * L.length := by omega
      go_wp2_with fail
      obtain ⟨wp, rfl⟩ : ∃ wp, wp = wr := ⟨_, rfl⟩
      go_loopw [6] (fun i' wr => ∃ k : Nat, k ≤ L.length ∧ i' = .int .i64 k ∧ Hid (Rowd wr (w.heap.size + 1) 155 320 (factV (fun i v => upF L v k (factM L v m) i))) ∧ Hid (Rowd wr w.heap.size 155 320 (factV (fun _ _ => f0))) ∧ Hid (Below w.heap.size w wr)) (fun i' _ => L.length - (intOf i').toNat)
      case atStart => exact ⟨0, by omega, rfl, unhide HB, unhide HA, unhide HL⟩
      case round =>
        clear HB HA HL
        obtain ⟨k, hk, rfl, HB, HA, HL⟩ := hrel
        by_cases hlk : k < L.length
        case neg =>
          have hkL : k = L.length := by omega
          subst hkL
          go_wp2_with fail
          go_roundw
          case rel =>
            refine ⟨m + 1, by omega, by go_num, (unhide HB).congr (fun o ho => ?_), unhide HA, unhide HL⟩
            have e : upF L ((o / 2 % 4 : Nat) : Int) L.length (factM L ((o / 2 % 4 : Nat) : Int) m) (o / 8) = factM L ((o / 2 % 4 : Nat) : Int) (m + 1) (o / 8) := by
              unfold factM; rw [unhide HIT]
            exact factV_eq e
          case measure => simp [intOf]; omega
        have hki : (k : Int) < L.length := by omega
        obtain ⟨q0, q1, q2, q3⟩ := ((unhide HI) k hlk).below (unhide HL) hb
        have KS' := hide (unhide KS k hlk (w.heap.size + 1) _ wr (unhide HB))
        have hsz := (unhide HA).lt
        go_wp2_with fail
        refine (unhide KS').mono ?_
        rintro e w5 ⟨rfl, hg5, hk5⟩
        have HB5 : Hid (Rowd w5 (w.heap.size + 1) 155 320 (factV (fun i v => upF L v (k + 1) (factM L v m) i))) := hg5.congr (fun o ho => by
          have e : spTo L k (fun i v => upF L v k (factM L v m) i) 4 (o / 8) (o / 2 % 4) = upF L ((o / 2 % 4 : Nat) : Int) (k + 1) (factM L ((o / 2 % 4 : Nat) : Int) m) (o / 8) := by
            unfold spTo; rw [if_pos (by omega)]; rfl
          exact factV_eq e)
        have HA5 : Hid (Rowd w5 w.heap.size 155 320 (factV (fun _ _ => f0))) := (unhide HA).keep hk5 (by omega)
        have HL5 : Hid (Below w.heap.size w w5) := (unhide HL).trans (hk5.below (Nat.le_of_lt hsz) (fun k hk e => by omega))
        clear hg5 hk5 q0 q1 q2 q3 hsz KS'
        go_wp2_with fail
        go_roundw
        case rel => exact ⟨k + 1, by omega, by go_num, unhide HB5, unhide HA5, unhide HL5⟩
        case measure => simp [intOf]; omega
end Go.Proofs.YtoepcplbpochpaaDoor
