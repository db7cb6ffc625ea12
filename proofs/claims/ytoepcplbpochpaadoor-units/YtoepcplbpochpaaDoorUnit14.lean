/-
  What is wrong with the args and the fuel of a run: code.StartError.
-/
import Derived.Test.YtoepcplbpochpaaDoorUnit1
import Derived.Test.YtoepcplbpochpaaDoorUnit2
import Derived.Handy
import Derived.Deep.WholeRow

namespace Go.Proofs.YtoepcplbpochpaaDoor
open Go.RowKit

/-- The error of args and fuel. -/
def startE (xs : List Int) (n fuel : Int) : Int := if fitsB xs n = false then 11 else if fuel < 0 ∨ 100000 < fuel then 12 else 0

set_option maxRecDepth 100000 in
set_option maxHeartbeats 1000000 in
theorem start_any (xs : List Int) (n fuel : Int) (ao : Option Addr) (cap : Nat) (w : World) (hH : HeldI w ao xs) (hl : xs.length ≤ 9223372036854775807) :
    Calls Tryd.prog 48 #[.slice ao xs.length cap, .int .i64 n, .int .i64 fuel] w fun e w' => e = .returned (.int .i64 (startE xs n fuel)) ∧ w' = w := by
  by_cases hne : (xs.length : Int) = n
  case neg =>
    have he := hide (show startE xs n fuel = 11 by unfold startE fitsB; rw [if_pos]; rw [show ((xs.length : Int) == n) = false by rw [beq_eq_false_iff_ne]; exact hne, Bool.and_false])
    have hne' : ((xs.length : Int) != n) = true := by rw [bne_iff_ne]; exact hne
    go_enter Tryd.func48, Tryd.ntmps48
    go_wp2
    go_ret
    exact ⟨ret_int (unhide he).symm, rfl⟩
  subst hne
  go_enter Tryd.func48, Tryd.ntmps48
  go_wp2
  go_loop [7] (fun i => ∃ k : Nat, k ≤ xs.length ∧ i = .int .i64 k ∧ Hid (valuesTo xs k = true)) (fun i => xs.length - (intOf i).toNat)
  case atStart => exact ⟨0, Nat.zero_le _, rfl, rfl⟩
  case round =>
    obtain ⟨k, hk, rfl, HV⟩ := hrel
    by_cases hlt : k < xs.length
    · obtain ⟨b, off, rfl, hb, hc⟩ : ∃ b off, ao = some ⟨b, off, none⟩ ∧ b < w.heap.size ∧ ∀ i, i < xs.length → w.cell? ⟨b, off + i, none⟩ = some (.int .i64 (nth xs i)) := by
        rcases hH with h | h
        · subst h; exact absurd hlt (by simp)
        · exact h
      have c := hc k hlt
      by_cases hv : 0 ≤ nth xs k ∧ nth xs k ≤ 65535
      · have hn := hide (show valuesTo xs (k + 1) = true by rw [valuesTo_succ, unhide HV]; simp [valueB, hv])
        obtain ⟨v0, v1⟩ := hv
        clear hc
        go_wp2
        go_round
        case rel => exact ⟨k + 1, by omega, by go_num, unhide hn⟩
        case measure => simp [intOf]; omega
      · have hf := hide (show startE xs (xs.length : Int) fuel = 11 by
          unfold startE
          rw [if_pos]
          unfold fitsB
          cases h : valuesTo xs xs.length
          · rfl
          · have := valuesTo_mono xs (show k + 1 ≤ xs.length by omega) h
            rw [valuesTo_succ] at this; simp [valueB] at this; omega)
        clear hc
        rcases (show nth xs k < 0 ∨ (0 ≤ nth xs k ∧ 65535 < nth xs k) by omega) with h | ⟨h, h'⟩
        all_goals
          clear hv
          go_wp2
          go_ret
          exact ⟨ret_int (unhide hf).symm, rfl⟩
    · have hk' : k = xs.length := by omega
      have hf := hide (show fitsB xs (xs.length : Int) = true by unfold fitsB; rw [← hk', unhide HV]; simp)
      clear hk'
      rcases (show fuel < 0 ∨ (0 ≤ fuel ∧ 100000 < fuel) ∨ (0 ≤ fuel ∧ fuel ≤ 100000) by omega) with h | ⟨h, h'⟩ | ⟨h, h'⟩
      case inr.inr =>
        have he := hide (show startE xs (xs.length : Int) fuel = 0 by unfold startE; rw [unhide hf, if_neg (by decide), if_neg (by omega)])
        go_wp2
        go_ret
        exact ⟨ret_int (unhide he).symm, rfl⟩
      all_goals
        have he := hide (show startE xs (xs.length : Int) fuel = 12 by unfold startE; rw [unhide hf, if_neg (by decide), if_pos (by omega)])
        go_wp2
        go_ret
        exact ⟨ret_int (unhide he).symm, rfl⟩
end Go.Proofs.YtoepcplbpochpaaDoor

/-
  How a run of a program begins: code.Begin, ir.begin.
-/
namespace Go.Proofs.YtoepcplbpochpaaDoor
open Go.RowKit

theorem Tryd.size81 : (Tryd.prog.info? 81).map (·.size) = some 23 := by kernel_rfl
theorem Tryd.size83 : (Tryd.prog.info? 83).map (·.size) = some 27 := by kernel_rfl
def b48 : Array Value := #[.int .i64 0, .int .i64 0, .int .i64 0, .int .i64 0, .int .i64 0, .int .i64 0, .int .i64 0, .int .i64 0, .int .i64 0, .int .i64 0, .int .i64 0, .int .i64 0, .int .i64 0, .int .i64 0, .int .i64 0, .int .i64 0, .int .i64 0, .bool true, .int .i64 2, .int .i64 0, .int .i64 0, .slice none 0 0, .slice none 0 0]
def b51 : Array Value := #[.int .i64 0, .int .i64 0, .int .i64 0, .int .i64 0, .int .i64 0, .int .i64 0, .int .i64 0, .int .i64 0, .int .i64 0, .int .i64 0, .int .i64 0, .int .i64 0, .int .i64 0, .int .i64 0, .int .i64 0, .int .i64 0, .int .i64 0, .bool true, .int .i64 2, .int .i64 0, .int .i64 0, .slice none 0 0, .slice none 0 0, .int .i64 0, .int .i64 0, .int .i64 0, .int .i64 0]

set_option maxRecDepth 100000 in
set_option maxHeartbeats 2000000 in
theorem codeBegin_any (w : World) : Calls Tryd.prog 84 #[] w fun e w' =>
    e = .returned (.agg b48) ∧ Below w.heap.size w w' := by
  go_enter Tryd.func84, Tryd.ntmps84
  go_wp2_with (refine wpList_store_row ?h1 81 ?h2 ?h3 ?h4 w.heap.size ?h5 ?h6 ?h7 ?h8 ?h9 ?h10 ?h11 ?h12 ?h13 ?h14; case h4 => rfl)
  case h1 => rfl
  case h6 => rfl
  case h7 => rfl
  case h10 => exact heap_alloc_new _ _
  case h11 => exact Tryd.size81
  case h12 => rfl
  case h13 => kernel_rfl
  rw [World.setRow_alloc_new]
  go_wp2_with fail
  refine bodyPost_ret (results_cell_row rfl _ _ w.heap.size 81 b48 (0, 0) _ rfl (heap_alloc_new _ _) Tryd.underlying81 rfl Tryd.size81) rfl ?_
  exact ⟨rfl, (Below.refl _ _).alloc (Nat.le_refl _) _⟩

/-- The cells of a run. -/
def AggSt (cs : Array Value) (s : St) (vo vs : Value) : Prop :=
  cs.size = 27 ∧ (∀ i, i < 16 → cs[i]? = some (.int .i64 (s.regs i))) ∧ (∀ i, i < 4 → cs[23 + i]? = some (.int .i64 (s.vars i))) ∧
  cs[16]? = some (.int .i64 (s.at_ : Int)) ∧ cs[17]? = some (.bool s.on) ∧ cs[18]? = some (.int .i64 s.kind) ∧ cs[19]? = some (.int .i64 s.val) ∧ cs[20]? = some (.int .i64 (s.steps : Int)) ∧ cs[21]? = some vo ∧ cs[22]? = some vs
theorem AggSt.stb {w : World} {B : Nat} {cs : Array Value} {t : TypeId} {s : St} {vo vs : Value} (h : AggSt cs s vo vs) (hE : s.env = progEnv) (hg : w.heap[B]? = some (.cells cs t (0, 0))) : StB w B s vo vs := by
  have c : ∀ o, w.cell? ⟨B, o, none⟩ = cs[o]? := fun o => cell_of_row w B o cs t (0, 0) hg
  obtain ⟨hn, h0, h1, h2, h3, h4, h5, h6, h7, h8⟩ := h
  refine ⟨fun i hi => (c _).trans (h0 i hi), fun i hi => (c _).trans (h1 i (by rw [hE] at hi; exact hi)), (c _).trans h2, (c _).trans h3, (c _).trans h4, (c _).trans h5, (c _).trans h6, (c _).trans h7, (c _).trans h8, fun o => by simp [World.frozen?, hg], fun o ho => ?_⟩
  rw [hE] at ho ⊢
  rw [c o, Array.getElem?_eq_none (by rw [hn]; exact ho)]
  rfl
theorem AggSt.of_stb {w : World} {B : Nat} {cs : Array Value} {t : TypeId} {s : St} {vo vs : Value} (h : StB w B s vo vs) (hE : s.env = progEnv) (hg : w.heap[B]? = some (.cells cs t (0, 0))) (hn : cs.size = 27) : AggSt cs s vo vs := by
  have c : ∀ o, cs[o]? = w.cell? ⟨B, o, none⟩ := fun o => (cell_of_row w B o cs t (0, 0) hg).symm
  obtain ⟨h0, h1, h2, h3, h4, h5, h6, h7, h8, _⟩ := h
  exact ⟨hn, fun i hi => (c _).trans (h0 i hi), fun i hi => (c _).trans (h1 i (by rw [hE]; exact hi)), (c _).trans h2, (c _).trans h3, (c _).trans h4, (c _).trans h5, (c _).trans h6, (c _).trans h7, (c _).trans h8⟩
theorem AggSt.plain {cs : Array Value} {s : St} (h : AggSt cs s (.slice none 0 0) (.slice none 0 0)) : cs.all (·.oneCell') = true := by
  obtain ⟨hn, h0, h1, h2, h3, h4, h5, h6, h7, h8⟩ := h
  rw [Array.all_eq_true]
  intro i hi
  have key : ∀ v, cs[i]? = some v → v.oneCell' = true → cs[i].oneCell' = true := fun v hv h1 => by
    have e : cs[i]? = some cs[i] := Array.getElem?_eq_getElem hi
    rw [e] at hv; injection hv with hv; rw [hv]; exact h1
  rcases (show i < 16 ∨ i = 16 ∨ i = 17 ∨ i = 18 ∨ i = 19 ∨ i = 20 ∨ i = 21 ∨ i = 22 ∨ 23 ≤ i by omega) with h | rfl | rfl | rfl | rfl | rfl | rfl | rfl | h
  · exact key _ (h0 i h) rfl
  · exact key _ h2 rfl
  · exact key _ h3 rfl
  · exact key _ h4 rfl
  · exact key _ h5 rfl
  · exact key _ h6 rfl
  · exact key _ h7 rfl
  · exact key _ h8 rfl
  · have := h1 (i - 23) (by omega)
    rw [show 23 + (i - 23) = i by omega] at this
    exact key _ this rfl

theorem below_setRow {B g : Nat} {a w : World} (h : Below B a w) (hg : B ≤ g) (cs : Array Value) : Below B a (w.setRow g cs) :=
  h.trans ⟨rfl, rfl, rfl, by simp [World.setRow], fun k hk => setRow_other w g k _ (by omega)⟩

def begSt (xs : List Int) (k m : Nat) : St := ⟨0, fun i => if i < k then nth xs i else 0, fun i => if i < m then -1 else 0, true, 2, 0, 0, [], [], progEnv⟩
def st0 (xs : List Int) : St := ⟨0, nth xs, fun _ => -1, true, 2, 0, 0, [], [], progEnv⟩
theorem begSt_reg (xs : List Int) (k m : Nat) : (begSt xs k m).reg k (nth xs k) = begSt xs (k + 1) m := by
  unfold St.reg begSt
  congr 1
  funext i
  unfold upd
  by_cases h : i = k
  · rw [if_pos h, if_pos (by omega), h]
  · rw [if_neg h]
    show (if i < k then _ else _) = _
    by_cases h2 : i < k
    · rw [if_pos h2, if_pos (by omega)]
    · rw [if_neg h2, if_neg (by omega)]
theorem begSt_var (xs : List Int) (k m : Nat) : (begSt xs k m).var m (-1) = begSt xs k (m + 1) := by
  unfold St.var begSt
  congr 1
  funext i
  unfold upd
  by_cases h : i = m
  · rw [if_pos h, if_pos (by omega)]
  · rw [if_neg h]
    show (if i < m then _ else _) = _
    by_cases h2 : i < m
    · rw [if_pos h2, if_pos (by omega)]
    · rw [if_neg h2, if_neg (by omega)]
theorem nth_past (xs : List Int) {i : Nat} (h : xs.length ≤ i) : nth xs i = 0 := by unfold nth; rw [List.getD_eq_getElem?_getD, List.getElem?_eq_none h]; rfl
theorem AggSt.done {cs : Array Value} {xs : List Int} (h : AggSt cs (begSt xs xs.length 4) (.slice none 0 0) (.slice none 0 0)) : AggSt cs (st0 xs) (.slice none 0 0) (.slice none 0 0) := by
  obtain ⟨hn, h0, h1, hr⟩ := h
  refine ⟨hn, fun i hi => (h0 i hi).trans ?_, fun i hi => (h1 i hi).trans ?_, hr⟩
  · show some (Value.int .i64 (if i < xs.length then nth xs i else 0)) = some (.int .i64 (nth xs i))
    by_cases h : i < xs.length
    · rw [if_pos h]
    · rw [if_neg h, nth_past xs (by omega)]
  · show some (Value.int .i64 (if i < 4 then -1 else 0)) = _
    rw [if_pos hi]; rfl
theorem agg_b51 (xs : List Int) : AggSt b51 (begSt xs 0 0) (.slice none 0 0) (.slice none 0 0) := by
  refine ⟨rfl, fun i hi => ?_, fun i hi => ?_, rfl, rfl, rfl, rfl, rfl, rfl, rfl⟩
  · rcases (show i = 0 ∨ i = 1 ∨ i = 2 ∨ i = 3 ∨ i = 4 ∨ i = 5 ∨ i = 6 ∨ i = 7 ∨ i = 8 ∨ i = 9 ∨ i = 10 ∨ i = 11 ∨ i = 12 ∨ i = 13 ∨ i = 14 ∨ i = 15 by omega) with rfl | rfl | rfl | rfl | rfl | rfl | rfl | rfl | rfl | rfl | rfl | rfl | rfl | rfl | rfl | rfl <;> rfl
  · rcases (show i = 0 ∨ i = 1 ∨ i = 2 ∨ i = 3 by omega) with rfl | rfl | rfl | rfl <;> rfl

set_option maxRecDepth 100000 in
set_option maxHeartbeats 4000000 in
theorem begin_any (xs : List Int) (ao : Option Addr) (cap : Nat) (w : World) (hH : HeldI w ao xs) (hl : xs.length ≤ 4) :
    Calls Tryd.prog 49 #[.slice ao xs.length cap] w fun e w' => ∃ cs, e = .returned (.agg cs) ∧ AggSt cs (st0 xs) (.slice none 0 0) (.slice none 0 0) ∧ Below w.heap.size w w' := by
  have KB := hide codeBegin_any
  have HH := hide hH
  unfold b48 at KB
  clear hH
  go_enter Tryd.func49, Tryd.ntmps49
  go_wp2_with fail
  obtain ⟨w1, hw1⟩ : ∃ w1, w1 = w.alloc (.cells #[.int .i64 0, .int .i64 0, .int .i64 0, .int .i64 0, .int .i64 0, .int .i64 0, .int .i64 0, .int .i64 0, .int .i64 0, .int .i64 0, .int .i64 0, .int .i64 0, .int .i64 0, .int .i64 0, .int .i64 0, .int .i64 0, .int .i64 0, .bool false, .int .i64 0, .int .i64 0, .int .i64 0, .slice none 0 0, .slice none 0 0, .int .i64 0, .int .i64 0, .int .i64 0, .int .i64 0] 83) := ⟨_, rfl⟩
  rw [← hw1]
  have HG1 : Hid (∃ cs, w1.heap[w.heap.size]? = some (.cells cs 83 (0, 0)) ∧ cs.size = 27) := by rw [hw1]; exact ⟨_, heap_alloc_new _ _, rfl⟩
  have hB1 : Below w.heap.size w w1 := by rw [hw1]; exact (Below.refl _ _).alloc (Nat.le_refl _) _
  have hz1 : w.heap.size < w1.heap.size := by rw [hw1]; simp
  clear hw1
  refine (unhide KB w1).mono ?_
  rintro e w2 ⟨rfl, hb2⟩
  have hz2 : w.heap.size < w2.heap.size := Nat.lt_of_lt_of_le hz1 hb2.size
  have HG2 : Hid (∃ cs, w2.heap[w.heap.size]? = some (.cells cs 83 (0, 0)) ∧ cs.size = 27) := by
    obtain ⟨cs, h1, h2⟩ := unhide HG1
    exact ⟨cs, (hb2.block w.heap.size hz1).trans h1, h2⟩
  have HB2 : Hid (Below w.heap.size w w2) := hB1.trans (hb2.mono (Nat.le_of_lt hz1))
  clear hb2 hB1 HG1 hz1
  go_wp2_with (refine wpList_store_row ?h1 83 ?h2 ?h3 ?h4 w2.heap.size ?h5 ?h6 ?h7 ?h8 ?h9 ?h10 ?h11 ?h12 ?h13 ?h14; case h4 => rfl)
  case h1 => rfl
  case h6 => rfl
  case h7 => rfl
  case h10 => exact heap_alloc_new _ _
  case h11 => exact Tryd.size83
  case h12 => rfl
  case h13 => kernel_rfl
  rw [World.setRow_alloc_new]
  obtain ⟨w3, hw3⟩ : ∃ w3, w3 = w2.alloc (.cells #[.int .i64 0, .int .i64 0, .int .i64 0, .int .i64 0, .int .i64 0, .int .i64 0, .int .i64 0, .int .i64 0, .int .i64 0, .int .i64 0, .int .i64 0, .int .i64 0, .int .i64 0, .int .i64 0, .int .i64 0, .int .i64 0, .int .i64 0, .bool true, .int .i64 2, .int .i64 0, .int .i64 0, .slice none 0 0, .slice none 0 0, .int .i64 0, .int .i64 0, .int .i64 0, .int .i64 0] 83) := ⟨_, rfl⟩
  rw [← hw3]
  have hg3 : w3.heap[w2.heap.size]? = some (.cells b51 83 (0, 0)) := by rw [hw3]; exact heap_alloc_new _ _
  have HS3 : Hid (StB w3 w2.heap.size (begSt xs 0 0) (.slice none 0 0) (.slice none 0 0)) := (agg_b51 xs).stb rfl hg3
  have HG3 : Hid (∃ cs, w3.heap[w2.heap.size]? = some (.cells cs 83 (0, 0)) ∧ cs.size = 27) := ⟨_, hg3, rfl⟩
  have HR3 : Hid (∃ cs, w3.heap[w.heap.size]? = some (.cells cs 83 (0, 0)) ∧ cs.size = 27) := by
    obtain ⟨cs, h1, h2⟩ := unhide HG2
    exact ⟨cs, by rw [hw3]; exact (Below.heap_alloc _ _ _ hz2).trans h1, h2⟩
  have HB3 : Hid (Below w.heap.size w w3) := by rw [hw3]; exact (unhide HB2).alloc (Nat.le_of_lt hz2) _
  have hz3 : w2.heap.size < w3.heap.size := by rw [hw3]; simp
  clear hw3 hg3 HG2 HB2
  go_wp2_with fail
  go_loopw [4] (fun i wr => ∃ k : Nat, k ≤ xs.length ∧ i = .int .i64 k ∧ Hid (StB wr w2.heap.size (begSt xs k 0) (.slice none 0 0) (.slice none 0 0)) ∧ Hid (∃ cs, wr.heap[w2.heap.size]? = some (.cells cs 83 (0, 0)) ∧ cs.size = 27) ∧ Hid (Below w2.heap.size w3 wr)) (fun i _ => xs.length - (intOf i).toNat)
  case atStart => exact ⟨0, Nat.zero_le _, rfl, unhide HS3, unhide HG3, Below.refl _ _⟩
  case round =>
    obtain ⟨k, hk, rfl, HS, HG, HB⟩ := hrel
    by_cases hlt : k < xs.length
    · obtain ⟨b, off, rfl, hb, hc⟩ : ∃ b off, ao = some ⟨b, off, none⟩ ∧ b < w.heap.size ∧ ∀ i, i < xs.length → w.cell? ⟨b, off + i, none⟩ = some (.int .i64 (nth xs i)) := by
        rcases unhide HH with h | h
        · subst h; exact absurd hlt (by simp)
        · exact h
      have c : wr.cell? ⟨b, off + k, none⟩ = some (.int .i64 (nth xs k)) := ((unhide HB).cell (p := ⟨b, off + k, none⟩) (show b < w2.heap.size by omega)).trans (((unhide HB3).cell (p := ⟨b, off + k, none⟩) hb).trans (hc k hlt))
      have ck : wr.cell? ⟨w2.heap.size, k, none⟩ = some (.int .i64 ((begSt xs k 0).regs k)) := (unhide HS).1 k (by omega)
      have hf : ∀ o, wr.frozen? ⟨w2.heap.size, o, none⟩ = false := (unhide HS).2.2.2.2.2.2.2.2.2.1
      obtain ⟨y, hy⟩ : ∃ y, y = nth xs k := ⟨_, rfl⟩
      rw [← hy] at c
      have HY := hide hy
      have k16 : (k : Int) < 16 := by omega
      clear hc hy HS3 HG3
      go_wp2
      go_roundw
      case rel =>
        refine ⟨k + 1, by omega, by go_num, ?_, ?_, ((unhide HB).setCell (p := ⟨w2.heap.size, k, none⟩) (Nat.le_refl _) _)⟩
        · have := (unhide HS).set_reg k (by omega) (nth xs k)
          rw [begSt_reg, ← unhide HY] at this
          exact this
        · obtain ⟨cs, h1, h2⟩ := unhide HG
          exact ⟨_, heap_setCell_same wr _ k cs 83 _ h1, by rw [Array.size_setIfInBounds]; exact h2⟩
      case measure => simp [intOf]; omega
    · obtain rfl : k = xs.length := by omega
      go_wp2_with fail
      go_loopw [5] (fun i wr => ∃ m : Nat, m ≤ 4 ∧ i = .int .i64 m ∧ Hid (StB wr w2.heap.size (begSt xs xs.length m) (.slice none 0 0) (.slice none 0 0)) ∧ Hid (∃ cs, wr.heap[w2.heap.size]? = some (.cells cs 83 (0, 0)) ∧ cs.size = 27) ∧ Hid (Below w2.heap.size w3 wr)) (fun i _ => 4 - (intOf i).toNat)
      case atStart => exact ⟨0, Nat.zero_le _, rfl, unhide HS, unhide HG, unhide HB⟩
      case round =>
        obtain ⟨m, hm, rfl, HSm, HGm, HBm⟩ := hrel
        by_cases hlm : m < 4
        · have cm : wr.cell? ⟨w2.heap.size, 23 + m, none⟩ = some (.int .i64 ((begSt xs xs.length m).vars m)) := (unhide HSm).2.1 m hlm
          have hf : ∀ o, wr.frozen? ⟨w2.heap.size, o, none⟩ = false := (unhide HSm).2.2.2.2.2.2.2.2.2.1
          have m4 : (m : Int) < 4 := by omega
          go_wp2
          go_roundw
          case rel =>
            refine ⟨m + 1, by omega, by go_num, ?_, ?_, ((unhide HBm).setCell (p := ⟨w2.heap.size, 23 + m, none⟩) (Nat.le_refl _) _)⟩
            · have := (unhide HSm).set_var m hlm (-1)
              rw [begSt_var] at this
              exact this
            · obtain ⟨cs, h1, h2⟩ := unhide HGm
              exact ⟨_, heap_setCell_same wr _ (23 + m) cs 83 _ h1, by rw [Array.size_setIfInBounds]; exact h2⟩
          case measure => simp [intOf]; omega
        · obtain rfl : m = 4 := by omega
          obtain ⟨cs, hcs, hcn⟩ := unhide HGm
          obtain ⟨zs, hzs, hzn⟩ := unhide HR3
          have HA := hide (AggSt.done (AggSt.of_stb (unhide HSm) rfl hcs hcn))
          have HC := hide hcs
          have HZ := hide ((unhide HBm).block w.heap.size hz2 |>.trans hzs)
          have HCN := hide hcn
          have HZN := hide hzn
          clear hcs hzs hcn hzn
          iterate 21 (first | go_values | go_skip | go_guarded | go_step)
          refine wpList_load_row rfl 83 _ rfl w2.heap.size rfl 83 cs (0, 0) _ (unhide HC) Tryd.underlying83 rfl (by rw [unhide HCN]; exact Tryd.size83) ?_
          refine wpList_store_row rfl 83 _ _ rfl w.heap.size cs rfl rfl 83 zs (unhide HZ) (by rw [unhide HCN]; exact Tryd.size83) (by rw [unhide HZN, unhide HCN]) (unhide HA).plain ?_
          go_wp2_with fail
          refine bodyPost_ret (results_cell_row rfl _ _ w.heap.size 83 cs (0, 0) _ rfl (setRow_heap wr w.heap.size zs _ 83 _ (unhide HZ)) Tryd.underlying83 rfl (by rw [unhide HCN]; exact Tryd.size83)) rfl ?_
          exact ⟨cs, rfl, unhide HA, below_setRow ((unhide HB3).trans ((unhide HBm).mono (Nat.le_of_lt hz2))) (Nat.le_refl _) cs⟩
end Go.Proofs.YtoepcplbpochpaaDoor
