/-
  What the inner parts of the program's run do to its block: (*code.Run).end, (*code.Run).reckon.
-/
import Derived.Test.YtoepcplbpochpaaDoorUnit2
import Derived.Deep.RegionHeld3
import Derived.Handy
import Derived.Laws.BitsLemmas

namespace Go.Proofs.YtoepcplbpochpaaDoor
open Go.RowKit

theorem and_mask (n : Int) : bits .and .i64 n 65535 = n % 65536 := by
  have h1 : (BitVec.ofInt 64 65535).toNat = 2 ^ 16 - 1 := by decide
  have key : (BitVec.ofInt 64 n &&& BitVec.ofInt 64 65535).toNat = (n % ((2 ^ 64 : Nat) : Int)).toNat % 2 ^ 16 := by
    rw [BitVec.toNat_and, BitVec.toNat_ofInt, h1, Nat.and_two_pow_sub_one_eq_mod]
  show IntKind.i64.wrap ((BitVec.ofInt 64 n &&& BitVec.ofInt 64 65535).toNat : Nat) = n % 65536
  rw [key, IntKind.wrap_i64]
  omega

theorem keep_set {B : Nat} {a w : World} (h : Keep (fun k => k = B) a w) (o : Nat) (u : Value) : Keep (fun k => k = B) a (w.setCell ⟨B, o, none⟩ u) := Keep.setCell (S := fun k => k = B) h (p := ⟨B, o, none⟩) rfl u
theorem StB.drew {w : World} {B : Nat} {s : St} {vo vs : Value} (h : StB w B s vo vs) : StB w.drew B s vo vs := h.of_block rfl
theorem StB.drewN {w : World} {B : Nat} {s : St} {vo vs : Value} (h : StB w B s vo vs) (n : Nat) : StB (w.drewN n) B s vo vs := h.of_block rfl
theorem StB.at_reg {w : World} {B : Nat} {s : St} {vo vs : Value} (h : StB w B s vo vs) (d : Nat) (hd : (d : Int) < 16) {z z' : Int} (hz : z = z') {s' : St} (hs : s' = s.reg d z') : StB (w.setCell ⟨B, d, none⟩ (.int .i64 z)) B s' vo vs := by
  rw [hs, ← hz]; exact h.set_reg d (by omega) z

set_option maxRecDepth 100000 in
set_option maxHeartbeats 2000000 in
theorem end_any (B : Nat) (s : St) (vo vs : Value) (k v : Int) (w : World) (h : StB w B s vo vs) :
    Calls Tryd.prog 113 #[.pointer (some ⟨B, 0, none⟩), .int .i64 k, .int .i64 v] w fun e w' =>
      e = .returned (.tuple #[]) ∧ StB w' B (s.ended k v) vo vs ∧ Keep (fun k => k = B) w w' := by
  have HS := hide h
  obtain ⟨_, _, _, h3, h4, h5, _, _, _, h9, _⟩ := h
  go_enter Tryd.func113, Tryd.ntmps113
  go_wp2
  go_returns
  exact ⟨rfl, (unhide HS).set_end k v, keep_set (keep_set (keep_set (Keep.refl _ _) _ _) _ _) _ _⟩

theorem reckon_to {s : St} {op : Int} {d a b : Nat} {x y z : Int} (hx : x = s.regs a) (hy : y = s.regs b) (h : reachE op x y = z) (h0 : 0 ≤ z) : s.reckon op d a b = s.reg d z := by
  unfold St.reckon; rw [← hx, ← hy, h, if_neg (by omega)]
theorem reckon_trap {s : St} {op : Int} {d a b : Nat} {x y : Int} (hx : x = s.regs a) (hy : y = s.regs b) (h : reachE op x y = -1) : s.reckon op d a b = s.ended 1 0 := by
  unfold St.reckon; rw [← hx, ← hy, h, if_pos (by omega)]

set_option maxRecDepth 100000 in
set_option maxHeartbeats 4000000 in
theorem reckon_any (B : Nat) (s : St) (vo vs : Value) (op : Int) (d a b : Nat) (w : World) (h : StB w B s vo vs) (ho : op = 2 ∨ op = 3 ∨ op = 4 ∨ op = 5 ∨ op = 6) (hd : (d : Int) < 16) (ha : (a : Int) < 16) (hb : (b : Int) < 16)
   (va : 0 ≤ s.regs a) (va' : s.regs a ≤ 65535) (vb : 0 ≤ s.regs b) (vb' : s.regs b ≤ 65535) :
    Calls Tryd.prog 112 #[.pointer (some ⟨B, 0, none⟩), .agg #[.int .i64 op, .int .i64 (d : Int), .int .i64 (a : Int), .int .i64 (b : Int)]] w fun e w' =>
      e = .returned (.tuple #[]) ∧ StB w' B (s.reckon op d a b) vo vs ∧ Keep (fun k => k = B) w w' := by
  have hB := h.lt
  obtain ⟨x, hx⟩ : ∃ x, x = s.regs a := ⟨_, rfl⟩
  obtain ⟨y, hy⟩ : ∃ y, y = s.regs b := ⟨_, rfl⟩
  rw [← hx] at va va'
  rw [← hy] at vb vb'
  have d0 : (0 : Int) ≤ (d : Int) := Int.natCast_nonneg _
  have a0 : (0 : Int) ≤ (a : Int) := Int.natCast_nonneg _
  have b0 : (0 : Int) ≤ (b : Int) := Int.natCast_nonneg _
  have HS := hide h
  have HX := hide hx
  have HY := hide hy
  clear h hx hy
  have HM0 : 0 ≤ x * y := Int.mul_nonneg va vb
  have HM1 : x * y ≤ 4294836225 := Int.le_trans (Int.mul_le_mul va' vb' vb (by decide)) (by decide)
  have hk : ∀ (wq : World) (j o : Nat) (z : Value), (wq.setCell ⟨B, j, none⟩ z).cell? ⟨w.heap.size, o, none⟩ = wq.cell? ⟨w.heap.size, o, none⟩ := fun wq j o z => World.cell?_setCell_other _ _ _ _ (fun e => by injection e with e1; omega)
  have hm := and_mask
  go_enter Tryd.func112, Tryd.ntmps112
  go_wp2_with fail
  obtain ⟨w1, hw1⟩ : ∃ w1, w1 = w.alloc (.cells #[.int .i64 op, .int .i64 (d : Int), .int .i64 (a : Int), .int .i64 (b : Int)] 77) := ⟨_, rfl⟩
  rw [← hw1]
  have q0 : w1.cell? ⟨w.heap.size, 0, none⟩ = some (.int .i64 op) := by rw [hw1, World.cell?_alloc_at (hn := rfl)]; rfl
  have q1 : w1.cell? ⟨w.heap.size, 1, none⟩ = some (.int .i64 (d : Int)) := by rw [hw1, World.cell?_alloc_at (hn := rfl)]; rfl
  have q2 : w1.cell? ⟨w.heap.size, 2, none⟩ = some (.int .i64 (a : Int)) := by rw [hw1, World.cell?_alloc_at (hn := rfl)]; rfl
  have q3 : w1.cell? ⟨w.heap.size, 3, none⟩ = some (.int .i64 (b : Int)) := by rw [hw1, World.cell?_alloc_at (hn := rfl)]; rfl
  have hblk : w1.heap[B]? = w.heap[B]? := by rw [hw1]; exact Below.heap_alloc _ _ _ hB
  have HS1 := hide ((unhide HS).of_block hblk)
  have ca1 : w1.cell? ⟨B, a, none⟩ = some (.int .i64 x) := by rw [unhide HX]; exact (unhide HS1).1 a (by omega)
  have cb1 : w1.cell? ⟨B, b, none⟩ = some (.int .i64 y) := by rw [unhide HY]; exact (unhide HS1).1 b (by omega)
  have cd1 : w1.cell? ⟨B, d, none⟩ = some (.int .i64 (s.regs d)) := (unhide HS1).1 d (by omega)
  have hf1 : ∀ o, w1.frozen? ⟨B, o, none⟩ = false := (unhide HS1).2.2.2.2.2.2.2.2.2.1
  have HK : Hid (Keep (fun k => k = B) w w1) := by rw [hw1]; exact (Keep.refl _ _).alloc _
  clear hw1 hblk HS
  go_region_held3 (fun w' => w'.cell? ⟨w.heap.size, 2, none⟩ = some (.int .i64 (a : Int)) ∧ w'.cell? ⟨B, a, none⟩ = some (.int .i64 x)) (simp [*]) (fail)
  go_wp2_with fail
  go_region_held3 (fun w' => w'.cell? ⟨w.heap.size, 3, none⟩ = some (.int .i64 (b : Int)) ∧ w'.cell? ⟨B, b, none⟩ = some (.int .i64 y)) (simp [*]) (fail)
  rcases ho with rfl | rfl | rfl | rfl | rfl
  · go_wp2_with fail
    go_region_held3 (fun w' => w'.cell? ⟨w.heap.size, 1, none⟩ = some (.int .i64 (d : Int))) (simp [*]) (fail)
    go_wp2_with fail
    go_returns
    refine ⟨rfl, ((((unhide HS1).at_reg d hd (z' := (x + y) % 65536) ?_ (reckon_to (unhide HX) (unhide HY) rfl ?_)).drew).drew).drew, ((keep_set (unhide HK) _ _).drew.drew).drew⟩
    · rw [IntKind.wrap_i64]; omega
    · omega
  · go_wp2_with fail
    go_region_held3 (fun w' => w'.cell? ⟨w.heap.size, 1, none⟩ = some (.int .i64 (d : Int))) (simp [*]) (fail)
    go_wp2_with fail
    go_returns
    refine ⟨rfl, ((((unhide HS1).at_reg d hd (z' := (x + 65536 - y) % 65536) ?_ (reckon_to (unhide HX) (unhide HY) rfl ?_)).drew).drew).drew, ((keep_set (unhide HK) _ _).drew.drew).drew⟩
    · rw [IntKind.wrap_i64]; omega
    · omega
  · go_wp2_with fail
    go_region_held3 (fun w' => w'.cell? ⟨w.heap.size, 1, none⟩ = some (.int .i64 (d : Int))) (simp [*]) (fail)
    go_wp2_with fail
    go_returns
    refine ⟨rfl, ((((unhide HS1).at_reg d hd (z' := x * y % 65536) ?_ (reckon_to (unhide HX) (unhide HY) rfl ?_)).drew).drew).drew, ((keep_set (unhide HK) _ _).drew.drew).drew⟩
    · rw [IntKind.wrap_i64]; omega
    · omega
  · by_cases hy0 : y = 0
    · subst hy0
      have KE := hide (fun w (h : StB w B s vo vs) => end_any B s vo vs 1 0 w h)
      go_wp2_with fail
      refine (unhide KE w1.drew.drew ((unhide HS1).drew.drew)).mono ?_
      rintro e w2 ⟨rfl, HS2, HK2⟩
      have HS3 := hide ((reckon_trap (unhide HX) (unhide HY) rfl : s.reckon 5 d a b = _) ▸ HS2)
      have HK3 := hide ((unhide HK).drew.drew.trans HK2 (fun _ _ h => h))
      clear HS2 HK2
      go_wp2_with fail
      go_returns
      exact ⟨rfl, unhide HS3, unhide HK3⟩
    · have hy1 : (y == 0) = false := by rw [beq_eq_false_iff_ne]; exact hy0
      have hy2 : 1 ≤ y := by omega
      go_wp2_with fail
      go_region_held3 (fun w' => w'.cell? ⟨w.heap.size, 1, none⟩ = some (.int .i64 (d : Int))) (simp [*]) (fail)
      go_wp2_with fail
      go_returns
      refine ⟨rfl, ((((unhide HS1).at_reg d hd (z' := x / y) ?_ (reckon_to (unhide HX) (unhide HY) ?_ ?_)).drew).drew).drew, ((keep_set (unhide HK) _ _).drew.drew).drew⟩
      · rw [Int.tdiv_eq_ediv_of_nonneg va, IntKind.wrap_i64]
        have g0 : 0 ≤ x / y := Int.ediv_nonneg va vb
        have g1 : x / y ≤ x := Int.ediv_le_self _ va
        generalize x / y = q at g0 g1 ⊢
        omega
      · show (if y = 0 then (-1 : Int) else x / y) = x / y
        rw [if_neg hy0]
      · exact Int.ediv_nonneg va vb
  · go_wp2_with fail
    go_region_held3 (fun w' => w'.cell? ⟨w.heap.size, 1, none⟩ = some (.int .i64 (d : Int))) (simp [*]) (fail)
    obtain ⟨w2, hw2⟩ : ∃ w2, w2 = (w1.setCell ⟨B, d, none⟩ (.int .i64 0)).drew.drew.drew := ⟨_, rfl⟩
    rw [← hw2]
    have HS2 : Hid (StB w2 B (s.reg d 0) vo vs) := by rw [hw2]; exact (((unhide HS1).set_reg d (by omega) 0).drew.drew).drew
    have HK2 : Hid (Keep (fun k => k = B) w w2) := by rw [hw2]; exact ((keep_set (unhide HK) _ _).drew.drew).drew
    have r1 : w2.cell? ⟨w.heap.size, 1, none⟩ = some (.int .i64 (d : Int)) := by rw [hw2]; exact (hk _ _ _ _).trans q1
    have cd2 : w2.cell? ⟨B, d, none⟩ = some (.int .i64 0) := by rw [hw2]; exact cell_put cd1
    have hf2 : ∀ o, w2.frozen? ⟨B, o, none⟩ = false := (unhide HS2).2.2.2.2.2.2.2.2.2.1
    clear hw2 hf1 cd1 cb1 ca1 q0 q1 q2 q3
    by_cases hlt : x < y
    · go_wp2_with fail
      go_region_held3 (fun w' => w'.cell? ⟨w.heap.size, 1, none⟩ = some (.int .i64 (d : Int))) (simp [*]) (fail)
      go_wp2_with fail
      go_returns
      refine ⟨rfl, ((unhide HS2).at_reg d hd (z' := 1) rfl ?_).drew, (keep_set (unhide HK2) _ _).drew⟩
      rw [reckon_to (unhide HX) (unhide HY) (show reachE 6 x y = 1 by show (if x < y then (1 : Int) else 0) = 1; rw [if_pos hlt]) (by decide)]
      unfold St.reg
      congr 1
      funext j
      unfold upd
      by_cases hj : j = d
      · rw [if_pos hj, if_pos hj]
      · rw [if_neg hj, if_neg hj]; show _ = (if j = d then 0 else s.regs j); rw [if_neg hj]
    · go_wp2_with fail
      go_returns
      exact ⟨rfl, (reckon_to (unhide HX) (unhide HY) (show reachE 6 x y = 0 by show (if x < y then (1 : Int) else 0) = 0; rw [if_neg (by omega)]) (by decide) : s.reckon 6 d a b = _) ▸ (unhide HS2), unhide HK2⟩
end Go.Proofs.YtoepcplbpochpaaDoor
