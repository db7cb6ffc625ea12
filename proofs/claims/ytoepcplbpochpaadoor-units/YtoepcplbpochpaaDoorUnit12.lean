/-
  What code.rangeOf, code.isOp and code.insError answer: the error of an instruction, as the document's own check tells it.
-/
import Derived.Test.YtoepcplbpochpaaDoorUnit1
import Derived.Deep.RegionHeld3
import Derived.Handy

namespace Go.Proofs.YtoepcplbpochpaaDoor
open Go.RowKit

/-- The table of the kinds of fields, as the program's text lays it. -/
def kindL : List (List Int) := [[1, 2, 0], [1, 1, 0], [1, 1, 1], [1, 1, 1], [1, 1, 1], [1, 1, 1], [1, 1, 1], [0, 3, 0], [0, 1, 3], [0, 1, 0], [0, 1, 0], [0, 4, 0], [5, 1, 0], [5, 2, 0], [5, 0, 0], [1, 6, 0], [6, 1, 0]]
def kindAt (o j : Nat) : Int := (kindL.getD o []).getD j 0
/-- The table lies in the program's memory. -/
def Tab (w : World) : Prop := ∀ o j, o < 17 → j < 3 → w.cell? ⟨0, o * 3 + j, none⟩ = some (.int .i64 (kindAt o j))
theorem Tab.below {w w' : World} {B : Nat} (h : Tab w) (hb : Below B w w') (hB : 0 < B) : Tab w' := fun o j ho hj => (hb.cell (p := ⟨0, o * 3 + j, none⟩) hB).trans (h o j ho hj)

/-- A kind's letter. -/
def letK (k : Int) : Int := if k = 1 then 114 else if k = 2 then 99 else if k = 3 then 116 else if k = 4 then 115 else if k = 5 then 118 else if k = 6 then 102 else 45
theorem letter_kind (o : Nat) (ho : o < 17) : letterAt o 0 = letK (kindAt o 0) ∧ letterAt o 1 = letK (kindAt o 1) ∧ letterAt o 2 = letK (kindAt o 2) ∧ (∀ j, j < 3 → 0 ≤ kindAt o j ∧ kindAt o j ≤ 6) := by
  rcases (show o = 0 ∨ o = 1 ∨ o = 2 ∨ o = 3 ∨ o = 4 ∨ o = 5 ∨ o = 6 ∨ o = 7 ∨ o = 8 ∨ o = 9 ∨ o = 10 ∨ o = 11 ∨ o = 12 ∨ o = 13 ∨ o = 14 ∨ o = 15 ∨ o = 16 by omega) with rfl | rfl | rfl | rfl | rfl | rfl | rfl | rfl | rfl | rfl | rfl | rfl | rfl | rfl | rfl | rfl | rfl
  all_goals exact ⟨by decide, by decide, by decide, fun j hj => by rcases (show j = 0 ∨ j = 1 ∨ j = 2 by omega) with rfl | rfl | rfl <;> exact ⟨by decide, by decide⟩⟩

def cntK (k r c v s : Int) : Int := if k = 1 then r else if k = 2 then 65536 else if k = 3 then c else if k = 4 then 100 else if k = 5 then v else s
def errK (k : Int) : Int := if k = 1 then 3 else if k = 2 then 4 else if k = 3 then 5 else if k = 4 then 6 else if k = 5 then 7 else 8
theorem fieldE_zero (n r c v s : Int) : fieldE (letK 0) n r c v s = 0 := by simp [fieldE, letK]
theorem fieldE_kind (k n r c v s : Int) (h1 : 1 ≤ k) (h6 : k ≤ 6) : fieldE (letK k) n r c v s = if n < 0 ∨ cntK k r c v s ≤ n then errK k else 0 := by
  rcases (show k = 1 ∨ k = 2 ∨ k = 3 ∨ k = 4 ∨ k = 5 ∨ k = 6 by omega) with rfl | rfl | rfl | rfl | rfl | rfl
  all_goals (simp [fieldE, letK, cntK, errK]; try omega)
  all_goals (split <;> split <;> first | rfl | (exfalso; omega))

set_option maxRecDepth 100000 in
set_option maxHeartbeats 1000000 in
theorem rangeOf_any (u : Bool) (k r c v s : Int) (w : World) (h1 : 1 ≤ k) (h6 : k ≤ 6) :
    Calls Tryd.prog 111 #[.int .i64 k, .agg #[.bool u, .int .i64 r, .int .i64 s, .int .i64 v], .int .i64 c] w fun e w' =>
      e = .returned (.tuple #[.int .i64 (cntK k r c v s), .int .i64 (errK k)]) ∧ Below w.heap.size w w' := by
  rcases (show k = 1 ∨ k = 2 ∨ k = 3 ∨ k = 4 ∨ k = 5 ∨ k = 6 by omega) with rfl | rfl | rfl | rfl | rfl | rfl
  all_goals
    clear h1 h6
    go_enter Tryd.func111, Tryd.ntmps111
    go_wp2
    go_ret2
    exact ⟨rfl, (Below.refl _ _).alloc (Nat.le_refl _) _⟩

/-- Is it an Op of a program (p), or of a unit? -/
def okOp (p : Bool) (op : Int) : Bool := decide (0 ≤ op ∧ op < 17) && opB p op.toNat
theorem okOp_true {p : Bool} {op : Int} (h : okOp p op = true) : 0 ≤ op ∧ op < 17 ∧ opB p op.toNat = true := by
  unfold okOp at h
  rw [Bool.and_eq_true, decide_eq_true_iff] at h
  exact ⟨h.1.1, h.1.2, h.2⟩
theorem okOp_false {p : Bool} {op : Int} (h : okOp p op = false) : ¬ (0 ≤ op ∧ op < 17 ∧ opB p op.toNat = true) := by
  rintro ⟨h1, h2, h3⟩
  unfold okOp at h
  rw [h3, Bool.and_true, decide_eq_false_iff_not] at h
  exact h ⟨h1, h2⟩

set_option maxRecDepth 100000 in
set_option maxHeartbeats 2000000 in
theorem isOp_any (op : Int) (u : Bool) (w : World) : Calls Tryd.prog 110 #[.int .i64 op, .bool u] w fun e w' => e = .returned (.bool (okOp (!u) op)) ∧ w' = w := by
  obtain ⟨b, hb⟩ : ∃ b, okOp (!u) op = b := ⟨_, rfl⟩
  rw [hb]
  rcases (show op < 0 ∨ (0 ≤ op ∧ op ≤ 11) ∨ op = 12 ∨ op = 13 ∨ op = 14 ∨ op = 15 ∨ op = 16 ∨ (0 ≤ op ∧ 11 < op ∧ 16 < op) by omega) with h | ⟨h, h'⟩ | rfl | rfl | rfl | rfl | rfl | ⟨h, h', h''⟩
  · obtain rfl : b = false := by rw [← hb]; unfold okOp; rw [decide_eq_false (by omega)]; rfl
    have n12 : (op == 12) = false := by rw [beq_eq_false_iff_ne]; omega
    have n13 : (op == 13) = false := by rw [beq_eq_false_iff_ne]; omega
    have n14 : (op == 14) = false := by rw [beq_eq_false_iff_ne]; omega
    have n15 : (op == 15) = false := by rw [beq_eq_false_iff_ne]; omega
    have n16 : (op == 16) = false := by rw [beq_eq_false_iff_ne]; omega
    clear hb
    cases u
    all_goals
      go_enter Tryd.func110, Tryd.ntmps110
      go_wp2
      go_ret
      exact ⟨rfl, rfl⟩
  · obtain rfl : b = true := by rw [← hb]; unfold okOp opB; rw [decide_eq_true (by omega), decide_eq_true (show op.toNat < 12 by omega)]; rfl
    clear hb
    go_enter Tryd.func110, Tryd.ntmps110
    go_wp2
    go_ret
    exact ⟨rfl, rfl⟩
  case inr.inr.inr.inr.inr.inr.inr =>
    obtain rfl : b = false := by rw [← hb]; unfold okOp; rw [decide_eq_false (by omega)]; rfl
    have n12 : (op == 12) = false := by rw [beq_eq_false_iff_ne]; omega
    have n13 : (op == 13) = false := by rw [beq_eq_false_iff_ne]; omega
    have n14 : (op == 14) = false := by rw [beq_eq_false_iff_ne]; omega
    have n15 : (op == 15) = false := by rw [beq_eq_false_iff_ne]; omega
    have n16 : (op == 16) = false := by rw [beq_eq_false_iff_ne]; omega
    clear hb
    cases u
    all_goals
      go_enter Tryd.func110, Tryd.ntmps110
      go_wp2
      go_ret
      exact ⟨rfl, rfl⟩
  all_goals
    cases u
    all_goals
      go_enter Tryd.func110, Tryd.ntmps110
      go_wp2
      go_ret
      exact ⟨ret_bool hb, rfl⟩

/-- The j-th field. -/
def fldAt (x : In4) (j : Nat) : Int := if j = 0 then x.d else if j = 1 then x.a else x.b
/-- The error of the fields from the j-th on. -/
def fieldsFrom (x : In4) (o : Nat) (r c v s : Int) (j : Nat) : Nat → Int
  | 0 => 0
  | m + 1 => if fieldE (letK (kindAt o j)) (fldAt x j) r c v s ≠ 0 then fieldE (letK (kindAt o j)) (fldAt x j) r c v s else fieldsFrom x o r c v s (j + 1) m
theorem fields_insE (p : Bool) (x : In4) (o : Nat) (r c v s : Int) (hx : x.op = (o : Int)) (ho : o < 17) (hp : opB p o = true) : insE p x r c v s = fieldsFrom x o r c v s 0 3 := by
  obtain ⟨l0, l1, l2, _⟩ := letter_kind o ho
  rw [insE_good hx ho hp, l0, l1, l2]
  have key : ∀ a b c : Int, (if a ≠ 0 then a else if b ≠ 0 then b else c) = if a ≠ 0 then a else if b ≠ 0 then b else if c ≠ 0 then c else 0 := fun a b c => by
    by_cases hc : c = 0
    · rw [if_neg (c := c ≠ 0) (fun h => h hc), hc]
    · rw [if_pos (c := c ≠ 0) hc]
  exact key (fieldE (letK (kindAt o 0)) x.d r c v s) (fieldE (letK (kindAt o 1)) x.a r c v s) (fieldE (letK (kindAt o 2)) x.b r c v s)

theorem fields_on {x : In4} {o : Nat} {r c v s : Int} {j : Nat} (hj : j < 3) (h : fieldE (letK (kindAt o j)) (fldAt x j) r c v s = 0) : fieldsFrom x o r c v s j (3 - j) = fieldsFrom x o r c v s (j + 1) (3 - (j + 1)) := by
  obtain ⟨m, hm⟩ : ∃ m, 3 - j = m + 1 := ⟨3 - j - 1, by omega⟩
  rw [hm, show 3 - (j + 1) = m by omega]
  show (if _ then _ else _) = _
  rw [if_neg (fun k => k h)]
theorem fields_here {x : In4} {o : Nat} {r c v s : Int} {j : Nat} (hj : j < 3) (h : fieldE (letK (kindAt o j)) (fldAt x j) r c v s ≠ 0) : fieldsFrom x o r c v s j (3 - j) = fieldE (letK (kindAt o j)) (fldAt x j) r c v s := by
  obtain ⟨m, hm⟩ : ∃ m, 3 - j = m + 1 := ⟨3 - j - 1, by omega⟩
  rw [hm]
  show (if _ then _ else _) = _
  rw [if_pos h]

theorem fldA_cell {w : World} {g : Nat} {x : In4} (h : w.heap[g]? = some (.cells #[.int .i64 x.d, .int .i64 x.a, .int .i64 x.b] 167 (0, 0))) (j : Nat) (hj : j < 3) : w.cell? ⟨g, j, none⟩ = some (.int .i64 (fldAt x j)) := by
  rw [cell_of_row w g j _ 167 (0, 0) h]
  rcases (show j = 0 ∨ j = 1 ∨ j = 2 by omega) with rfl | rfl | rfl <;> rfl

set_option maxRecDepth 100000 in
set_option maxHeartbeats 2000000 in
theorem insError_any (u : Bool) (x : In4) (r c v s : Int) (w : World) (hT : Tab w) (hw0 : 0 < w.heap.size) :
    Calls Tryd.prog 80 #[.agg #[.int .i64 x.op, .int .i64 x.d, .int .i64 x.a, .int .i64 x.b], .agg #[.bool u, .int .i64 r, .int .i64 s, .int .i64 v], .int .i64 c] w fun e w' =>
      e = .returned (.int .i64 (insE (!u) x r c v s)) ∧ Below w.heap.size w w' := by
  have KO := hide (fun w => isOp_any x.op u w)
  cases hok : okOp (!u) x.op with
  | false =>
    rw [hok] at KO
    have he := hide (show insE (!u) x r c v s = 2 by unfold insE; rw [if_pos (okOp_false hok)])
    clear hok hT
    go_enter Tryd.func80, Tryd.ntmps80
    go_wp2_with (go_at_call 110; refine (unhide KO _).mono ?_; rintro e w2 ⟨rfl, hw⟩; rw [hw]; clear hw)
    go_ret
    exact ⟨ret_int (unhide he).symm, ((Below.refl _ _).alloc (Nat.le_refl _) _).alloc (by simp) _⟩
  | true =>
  rw [hok] at KO
  obtain ⟨g0, g1, g2⟩ := okOp_true hok
  obtain ⟨o, hx⟩ : ∃ o : Nat, x.op = (o : Int) := ⟨x.op.toNat, by omega⟩
  have ho : o < 17 := by omega
  have HIE := hide (fields_insE (!u) x o r c v s hx ho (by rw [hx, Int.toNat_natCast] at g2; exact g2))
  have HT := hide hT
  rw [hx] at KO ⊢
  rw [unhide HIE]
  clear hok g0 g1 g2 HIE
  have HK := hide (letter_kind o ho).2.2.2
  have o1 : (o : Int) < 17 := by omega
  have o0 : (0 : Int) ≤ (o : Int) := by omega
  clear hT hx
  go_enter Tryd.func80, Tryd.ntmps80
  go_wp2_with (go_at_call 110; refine (unhide KO _).mono ?_; rintro e w2 ⟨rfl, hw⟩; rw [hw]; clear hw)
  obtain ⟨w1, hw1⟩ : ∃ w1, w1 = ((w.alloc (.cells #[.int .i64 (o : Int), .int .i64 x.d, .int .i64 x.a, .int .i64 x.b] 77)).alloc (.cells #[.bool u, .int .i64 r, .int .i64 s, .int .i64 v] 72)).alloc (.cells #[.int .i64 x.d, .int .i64 x.a, .int .i64 x.b] 167) := ⟨_, rfl⟩
  rw [← hw1]
  have HB1 : Hid (Below w.heap.size w w1) := by rw [hw1]; exact (((Below.refl _ _).alloc (Nat.le_refl _) _).alloc (by simp) _).alloc (by simp; omega) _
  have hz1 : w1.heap.size = w.heap.size + 3 := by rw [hw1]; simp
  have p0 : w1.cell? ⟨w.heap.size, 0, none⟩ = some (.int .i64 (o : Int)) := by
    rw [hw1, World.cell?_alloc_past (hn := by simp; omega), World.cell?_alloc_past (hn := by simp), World.cell?_alloc_at (hn := rfl)]; rfl
  have pl : ∀ i, w1.cell? ⟨w.heap.size + 1, i, none⟩ = #[Value.bool u, .int .i64 r, .int .i64 s, .int .i64 v][i]? := fun i => by
    rw [hw1, World.cell?_alloc_past (hn := by simp), World.cell?_alloc_at (hn := by simp)]
  have HF : Hid (w1.heap[w.heap.size + 1 + 1]? = some (.cells #[.int .i64 x.d, .int .i64 x.a, .int .i64 x.b] 167 (0, 0))) := by
    have hh := heap_alloc_new ((w.alloc (.cells #[.int .i64 (o : Int), .int .i64 x.d, .int .i64 x.a, .int .i64 x.b] 77)).alloc (.cells #[.bool u, .int .i64 r, .int .i64 s, .int .i64 v] 72)) (.cells #[.int .i64 x.d, .int .i64 x.a, .int .i64 x.b] 167)
    rw [show ((w.alloc (.cells #[.int .i64 (o : Int), .int .i64 x.d, .int .i64 x.a, .int .i64 x.b] 77)).alloc (.cells #[.bool u, .int .i64 r, .int .i64 s, .int .i64 v] 72)).heap.size = w.heap.size + 1 + 1 by simp] at hh
    rw [hw1]; exact hh
  have l0 : w1.cell? ⟨w.heap.size + 1, 0, none⟩ = some (.bool u) := (pl 0).trans rfl
  have l1 : w1.cell? ⟨w.heap.size + 1, 1, none⟩ = some (.int .i64 r) := (pl 1).trans rfl
  have l2 : w1.cell? ⟨w.heap.size + 1, 2, none⟩ = some (.int .i64 s) := (pl 2).trans rfl
  have l3 : w1.cell? ⟨w.heap.size + 1, 3, none⟩ = some (.int .i64 v) := (pl 3).trans rfl
  have HT1 := hide ((unhide HT).below (unhide HB1) hw0)
  clear hw1 pl HT
  go_loopw [8] (fun i wr => ∃ k : Nat, k ≤ 3 ∧ i = .int .i64 k ∧ Hid (fieldsFrom x o r c v s 0 3 = fieldsFrom x o r c v s k (3 - k)) ∧ Below w1.heap.size w1 wr) (fun i _ => 3 - (intOf i).toNat)
  case atStart => exact ⟨0, Nat.zero_le _, rfl, rfl, Below.refl _ _⟩
  case round =>
    obtain ⟨k, hk, rfl, HC, hbel⟩ := hrel
    have hB := hbel.size
    by_cases hlt : k < 3
    case neg =>
      obtain rfl : k = 3 := by omega
      have he := hide (show fieldsFrom x o r c v s 0 3 = 0 by rw [unhide HC]; rfl)
      go_wp2
      go_ret
      exact ⟨ret_int (unhide he).symm, (unhide HB1).trans (hbel.mono (by omega))⟩
    have k3 : (k : Int) < 3 := by omega
    have k0 : (0 : Int) ≤ (k : Int) := by omega
    have r0 := (hbel.cell (p := ⟨w.heap.size, 0, none⟩) (show w.heap.size < w1.heap.size by omega)).trans p0
    have m0 := (hbel.cell (p := ⟨w.heap.size + 1, 0, none⟩) (show w.heap.size + 1 < w1.heap.size by omega)).trans l0
    have m1 := (hbel.cell (p := ⟨w.heap.size + 1, 1, none⟩) (show w.heap.size + 1 < w1.heap.size by omega)).trans l1
    have m2 := (hbel.cell (p := ⟨w.heap.size + 1, 2, none⟩) (show w.heap.size + 1 < w1.heap.size by omega)).trans l2
    have m3 := (hbel.cell (p := ⟨w.heap.size + 1, 3, none⟩) (show w.heap.size + 1 < w1.heap.size by omega)).trans l3
    obtain ⟨f, hf⟩ : ∃ f, f = fldAt x k := ⟨_, rfl⟩
    obtain ⟨q, hq⟩ : ∃ q, q = kindAt o k := ⟨_, rfl⟩
    have rf := (hbel.cell (p := ⟨w.heap.size + 1 + 1, k, none⟩) (show w.heap.size + 1 + 1 < w1.heap.size by omega)).trans (fldA_cell (unhide HF) k hlt)
    have rk := (hbel.cell (p := ⟨0, o * 3 + k, none⟩) (show 0 < w1.heap.size by omega)).trans (unhide HT1 o k ho hlt)
    rw [← hf] at rf
    rw [← hq] at rk
    have hq0 := (unhide HK k hlt).1
    have hq6 := (unhide HK k hlt).2
    rw [← hq] at hq0 hq6
    have HQ := hide hq
    have HFF := hide hf
    clear hq hf
    by_cases hz : q = 0
    · subst hz
      have hn := hide (show fieldsFrom x o r c v s 0 3 = fieldsFrom x o r c v s (k + 1) (3 - (k + 1)) by
        rw [unhide HC]; exact fields_on hlt (by rw [← unhide HQ]; exact fieldE_zero _ _ _ _ _))
      go_wp2
      go_roundw
      case rel => exact ⟨k + 1, by omega, by go_num, unhide hn, hbel⟩
      case measure => simp [intOf]; omega
    · have hz1' : (q == 0) = false := by rw [beq_eq_false_iff_ne]; exact hz
      have hq1 : 1 ≤ q := by omega
      have hF := fieldE_kind q f r c v s hq1 hq6
      have KR := hide (fun w => rangeOf_any u q r c v s w hq1 hq6)
      have HFE := hide hF
      obtain ⟨cn, hcn⟩ : ∃ cn, cn = cntK q r c v s := ⟨_, rfl⟩
      obtain ⟨er, her⟩ : ∃ er, er = errK q := ⟨_, rfl⟩
      have e3 : 3 ≤ er := by rw [her]; unfold errK; split <;> (try split) <;> (try split) <;> (try split) <;> (try split) <;> omega
      rw [← hcn, ← her] at KR HFE
      clear hF hcn her hz
      rcases (show f < 0 ∨ (0 ≤ f ∧ cn ≤ f) ∨ (0 ≤ f ∧ f < cn) by omega) with h | ⟨h, h'⟩ | ⟨h, h'⟩
      case inr.inr =>
        have hn := hide (show fieldsFrom x o r c v s 0 3 = fieldsFrom x o r c v s (k + 1) (3 - (k + 1)) by
          rw [unhide HC]; exact fields_on hlt (by rw [← unhide HQ, ← unhide HFF, unhide HFE, if_neg (by omega)]))
        go_wp2_with fail
        refine (unhide KR wr).mono ?_
        rintro e w2 ⟨rfl, hb2⟩
        have sf := (hb2.cell (p := ⟨w.heap.size + 1 + 1, k, none⟩) (show w.heap.size + 1 + 1 < wr.heap.size by omega)).trans rf
        have HB2 := hide (hbel.trans (hb2.mono hB))
        clear hb2
        go_wp2
        go_roundw
        case rel => exact ⟨k + 1, by omega, by go_num, unhide hn, unhide HB2⟩
        case measure => simp [intOf]; omega
      all_goals
        have hn := hide (show fieldsFrom x o r c v s 0 3 = er by
          have e1 : fieldE (letK (kindAt o k)) (fldAt x k) r c v s = er := by rw [← unhide HQ, ← unhide HFF, unhide HFE, if_pos (by omega)]
          rw [unhide HC, fields_here hlt (by rw [e1]; omega), e1])
        go_wp2_with fail
        refine (unhide KR wr).mono ?_
        rintro e w2 ⟨rfl, hb2⟩
        have sf := (hb2.cell (p := ⟨w.heap.size + 1 + 1, k, none⟩) (show w.heap.size + 1 + 1 < wr.heap.size by omega)).trans rf
        have HB2 := hide (hbel.trans (hb2.mono hB))
        clear hb2
        go_wp2
        go_ret
        exact ⟨ret_int (unhide hn).symm, (unhide HB1).trans ((unhide HB2).mono (by omega))⟩
end Go.Proofs.YtoepcplbpochpaaDoor
