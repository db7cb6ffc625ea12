/-
  How a run of a program begins: code.Begin, ir.begin.
-/
import Derived.Test.YtoepcplbpochpaaDoorPiece2
import Derived.Handy
import Derived.Deep.WholeRow
import Derived.Test.YtoepcplbpochpaaDoorPiece4
import Derived.Test.YtoepcplbpochpaaDoorPiece3
import Derived.Deep.MidRow
import Derived.Deep.RegionHeld3

namespace Go.Proofs.YtoepcplbpochpaaDoor
open Go.RowKit

theorem Tryd.size81 : (Tryd.prog.info? 81).map (·.size) = some 23 := by kernel_rfl
theorem Tryd.size83 : (Tryd.prog.info? 83).map (·.size) = some 27 := by kernel_rfl
def b48 : Array Value := #[.int .i64 0, .int .i64 0, .int .i64 0, .int .i64 0, .int .i64 0, .int .i64 0, .int .i64 0, .int .i64 0, .int .i64 0, .int .i64 0, .int .i64 0, .int .i64 0, .int .i64 0, .int .i64 0, .int .i64 0, .int .i64 0, .int .i64 0, .bool true, .int .i64 2, .int .i64 0, .int .i64 0, .slice none 0 0, .slice none 0 0]
def b51 : Array Value := #[.int .i64 0, .int .i64 0, .int .i64 0, .int .i64 0, .int .i64 0, .int .i64 0, .int .i64 0, .int .i64 0, .int .i64 0, .int .i64 0, .int .i64 0, .int .i64 0, .int .i64 0, .int .i64 0, .int .i64 0, .int .i64 0, .int .i64 0, .bool true, .int .i64 2, .int .i64 0, .int .i64 0, .slice none 0 0, .slice none 0 0, .int .i64 0, .int .i64 0, .int .i64 0, .int .i64 0]

set_option maxRecDepth 100000 in
set_option maxHeartbeats 2000000 in
theorem codeBegin_any (w : World) : Calls Tryd.prog 84 #[] w fun e w' =>
    e = .returned (.agg b48) ∧ Below w.heap.size w w' := by
  go_enter Tryd.func84, Tryd.ntmps84
  go_wp2_with (refine wpList_store_row ?h1 81 ?h2 ?h3 ?h4 w.heap.size ?h5 ?h6 ?h7 ?h8 ?h9 ?h10 ?h11 ?h12 ?h13 ?h14; case h4 => rfl)
  case h1 => rfl
  case h6 => rfl
  case h7 => rfl
  case h10 => exact heap_alloc_new _ _
  case h11 => exact Tryd.size81
  case h12 => rfl
  case h13 => kernel_rfl
  rw [World.setRow_alloc_new]
  go_wp2_with fail
  refine bodyPost_ret (results_cell_row rfl _ _ w.heap.size 81 b48 (0, 0) _ rfl (heap_alloc_new _ _) Tryd.underlying81 rfl Tryd.size81) rfl ?_
  exact ⟨rfl, (Below.refl _ _).alloc (Nat.le_refl _) _⟩

/-- The cells of a run. -/
def AggSt (cs : Array Value) (s : St) (vo vs : Value) : Prop :=
  cs.size = 27 ∧ (∀ i, i < 16 → cs[i]? = some (.int .i64 (s.regs i))) ∧ (∀ i, i < 4 → cs[23 + i]? = some (.int .i64 (s.vars i))) ∧
  cs[16]? = some (.int .i64 (s.at_ : Int)) ∧ cs[17]? = some (.bool s.on) ∧ cs[18]? = some (.int .i64 s.kind) ∧ cs[19]? = some (.int .i64 s.val) ∧ cs[20]? = some (.int .i64 (s.steps : Int)) ∧ cs[21]? = some vo ∧ cs[22]? = some vs
theorem AggSt.stb {w : World} {B : Nat} {cs : Array Value} {t : TypeId} {s : St} {vo vs : Value} (h : AggSt cs s vo vs) (hE : s.env = progEnv) (hg : w.heap[B]? = some (.cells cs t (0, 0))) : StB w B s vo vs := by
  have c : ∀ o, w.cell? ⟨B, o, none⟩ = cs[o]? := fun o => cell_of_row w B o cs t (0, 0) hg
  obtain ⟨hn, h0, h1, h2, h3, h4, h5, h6, h7, h8⟩ := h
  refine ⟨fun i hi => (c _).trans (h0 i hi), fun i hi => (c _).trans (h1 i (by rw [hE] at hi; exact hi)), (c _).trans h2, (c _).trans h3, (c _).trans h4, (c _).trans h5, (c _).trans h6, (c _).trans h7, (c _).trans h8, fun o => by simp [World.frozen?, hg], fun o ho => ?_⟩
  rw [hE] at ho ⊢
  rw [c o, Array.getElem?_eq_none (by rw [hn]; exact ho)]
  rfl
theorem AggSt.of_stb {w : World} {B : Nat} {cs : Array Value} {t : TypeId} {s : St} {vo vs : Value} (h : StB w B s vo vs) (hE : s.env = progEnv) (hg : w.heap[B]? = some (.cells cs t (0, 0))) (hn : cs.size = 27) : AggSt cs s vo vs := by
  have c : ∀ o, cs[o]? = w.cell? ⟨B, o, none⟩ := fun o => (cell_of_row w B o cs t (0, 0) hg).symm
  obtain ⟨h0, h1, h2, h3, h4, h5, h6, h7, h8, _⟩ := h
  exact ⟨hn, fun i hi => (c _).trans (h0 i hi), fun i hi => (c _).trans (h1 i (by rw [hE]; exact hi)), (c _).trans h2, (c _).trans h3, (c _).trans h4, (c _).trans h5, (c _).trans h6, (c _).trans h7, (c _).trans h8⟩
theorem AggSt.plain {cs : Array Value} {s : St} (h : AggSt cs s (.slice none 0 0) (.slice none 0 0)) : cs.all (·.oneCell') = true := by
  obtain ⟨hn, h0, h1, h2, h3, h4, h5, h6, h7, h8⟩ := h
  rw [Array.all_eq_true]
  intro i hi
  have key : ∀ v, cs[i]? = some v → v.oneCell' = true → cs[i].oneCell' = true := fun v hv h1 => by
    have e : cs[i]? = some cs[i] := Array.getElem?_eq_getElem hi
    rw [e] at hv; injection hv with hv; rw [hv]; exact h1
  rcases (show i < 16 ∨ i = 16 ∨ i = 17 ∨ i = 18 ∨ i = 19 ∨ i = 20 ∨ i = 21 ∨ i = 22 ∨ 23 ≤ i by omega) with h | rfl | rfl | rfl | rfl | rfl | rfl | rfl | h
  · exact key _ (h0 i h) rfl
  · exact key _ h2 rfl
  · exact key _ h3 rfl
  · exact key _ h4 rfl
  · exact key _ h5 rfl
  · exact key _ h6 rfl
  · exact key _ h7 rfl
  · exact key _ h8 rfl
  · have := h1 (i - 23) (by omega)
    rw [show 23 + (i - 23) = i by omega] at this
    exact key _ this rfl

theorem below_setRow {B g : Nat} {a w : World} (h : Below B a w) (hg : B ≤ g) (cs : Array Value) : Below B a (w.setRow g cs) :=
  h.trans ⟨rfl, rfl, rfl, by simp [World.setRow], fun k hk => setRow_other w g k _ (by omega)⟩

def begSt (xs : List Int) (k m : Nat) : St := ⟨0, fun i => if i < k then nth xs i else 0, fun i => if i < m then -1 else 0, true, 2, 0, 0, [], [], progEnv⟩
def st0 (xs : List Int) : St := ⟨0, nth xs, fun _ => -1, true, 2, 0, 0, [], [], progEnv⟩
theorem begSt_reg (xs : List Int) (k m : Nat) : (begSt xs k m).reg k (nth xs k) = begSt xs (k + 1) m := by
  unfold St.reg begSt
  congr 1
  funext i
  unfold upd
  by_cases h : i = k
  · rw [if_pos h, if_pos (by omega), h]
  · rw [if_neg h]
    show (if i < k then _ else _) = _
    by_cases h2 : i < k
    · rw [if_pos h2, if_pos (by omega)]
    · rw [if_neg h2, if_neg (by omega)]
theorem begSt_var (xs : List Int) (k m : Nat) : (begSt xs k m).var m (-1) = begSt xs k (m + 1) := by
  unfold St.var begSt
  congr 1
  funext i
  unfold upd
  by_cases h : i = m
  · rw [if_pos h, if_pos (by omega)]
  · rw [if_neg h]
    show (if i < m then _ else _) = _
    by_cases h2 : i < m
    · rw [if_pos h2, if_pos (by omega)]
    · rw [if_neg h2, if_neg (by omega)]
theorem nth_past (xs : List Int) {i : Nat} (h : xs.length ≤ i) : nth xs i = 0 := by unfold nth; rw [List.getD_eq_getElem?_getD, List.getElem?_eq_none h]; rfl
theorem AggSt.done {cs : Array Value} {xs : List Int} (h : AggSt cs (begSt xs xs.length 4) (.slice none 0 0) (.slice none 0 0)) : AggSt cs (st0 xs) (.slice none 0 0) (.slice none 0 0) := by
  obtain ⟨hn, h0, h1, hr⟩ := h
  refine ⟨hn, fun i hi => (h0 i hi).trans ?_, fun i hi => (h1 i hi).trans ?_, hr⟩
  · show some (Value.int .i64 (if i < xs.length then nth xs i else 0)) = some (.int .i64 (nth xs i))
    by_cases h : i < xs.length
    · rw [if_pos h]
    · rw [if_neg h, nth_past xs (by omega)]
  · show some (Value.int .i64 (if i < 4 then -1 else 0)) = _
    rw [if_pos hi]; rfl
theorem agg_b51 (xs : List Int) : AggSt b51 (begSt xs 0 0) (.slice none 0 0) (.slice none 0 0) := by
  refine ⟨rfl, fun i hi => ?_, fun i hi => ?_, rfl, rfl, rfl, rfl, rfl, rfl, rfl⟩
  · rcases (show i = 0 ∨ i = 1 ∨ i = 2 ∨ i = 3 ∨ i = 4 ∨ i = 5 ∨ i = 6 ∨ i = 7 ∨ i = 8 ∨ i = 9 ∨ i = 10 ∨ i = 11 ∨ i = 12 ∨ i = 13 ∨ i = 14 ∨ i = 15 by omega) with rfl | rfl | rfl | rfl | rfl | rfl | rfl | rfl | rfl | rfl | rfl | rfl | rfl | rfl | rfl | rfl <;> rfl
  · rcases (show i = 0 ∨ i = 1 ∨ i = 2 ∨ i = 3 by omega) with rfl | rfl | rfl | rfl <;> rfl

set_option maxRecDepth 100000 in
set_option maxHeartbeats 4000000 in
theorem begin_any (xs : List Int) (ao : Option Addr) (cap : Nat) (w : World) (hH : HeldI w ao xs) (hl : xs.length ≤ 4) :
    Calls Tryd.prog 49 #[.slice ao xs.length cap] w fun e w' => ∃ cs, e = .returned (.agg cs) ∧ AggSt cs (st0 xs) (.slice none 0 0) (.slice none 0 0) ∧ Below w.heap.size w w' := by
  have KB := hide codeBegin_any
  have HH := hide hH
  unfold b48 at KB
  clear hH
  go_enter Tryd.func49, Tryd.ntmps49
  go_wp2_with fail
  obtain ⟨w1, hw1⟩ : ∃ w1, w1 = w.alloc (.cells #[.int .i64 0, .int .i64 0, .int .i64 0, .int .i64 0, .int .i64 0, .int .i64 0, .int .i64 0, .int .i64 0, .int .i64 0, .int .i64 0, .int .i64 0, .int .i64 0, .int .i64 0, .int .i64 0, .int .i64 0, .int .i64 0, .int .i64 0, .bool false, .int .i64 0, .int .i64 0, .int .i64 0, .slice none 0 0, .slice none 0 0, .int .i64 0, .int .i64 0, .int .i64 0, .int .i64 0] 83) := ⟨_, rfl⟩
  rw [← hw1]
  have HG1 : Hid (∃ cs, w1.heap[w.heap.size]? = some (.cells cs 83 (0, 0)) ∧ cs.size = 27) := by rw [hw1]; exact ⟨_, heap_alloc_new _ _, rfl⟩
  have hB1 : Below w.heap.size w w1 := by rw [hw1]; exact (Below.refl _ _).alloc (Nat.le_refl _) _
  have hz1 : w.heap.size < w1.heap.size := by rw [hw1]; simp
  clear hw1
  refine (unhide KB w1).mono ?_
  rintro e w2 ⟨rfl, hb2⟩
  have hz2 : w.heap.size < w2.heap.size := Nat.lt_of_lt_of_le hz1 hb2.size
  have HG2 : Hid (∃ cs, w2.heap[w.heap.size]? = some (.cells cs 83 (0, 0)) ∧ cs.size = 27) := by
    obtain ⟨cs, h1, h2⟩ := unhide HG1
    exact ⟨cs, (hb2.block w.heap.size hz1).trans h1, h2⟩
  have HB2 : Hid (Below w.heap.size w w2) := hB1.trans (hb2.mono (Nat.le_of_lt hz1))
  clear hb2 hB1 HG1 hz1
  go_wp2_with (refine wpList_store_row ?h1 83 ?h2 ?h3 ?h4 w2.heap.size ?h5 ?h6 ?h7 ?h8 ?h9 ?h10 ?h11 ?h12 ?h13 ?h14; case h4 => rfl)
  case h1 => rfl
  case h6 => rfl
  case h7 => rfl
  case h10 => exact heap_alloc_new _ _
  case h11 => exact Tryd.size83
  case h12 => rfl
  case h13 => kernel_rfl
  rw [World.setRow_alloc_new]
  obtain ⟨w3, hw3⟩ : ∃ w3, w3 = w2.alloc (.cells #[.int .i64 0, .int .i64 0, .int .i64 0, .int .i64 0, .int .i64 0, .int .i64 0, .int .i64 0, .int .i64 0, .int .i64 0, .int .i64 0, .int .i64 0, .int .i64 0, .int .i64 0, .int .i64 0, .int .i64 0, .int .i64 0, .int .i64 0, .bool true, .int .i64 2, .int .i64 0, .int .i64 0, .slice none 0 0, .slice none 0 0, .int .i64 0, .int .i64 0, .int .i64 0, .int .i64 0] 83) := ⟨_, rfl⟩
  rw [← hw3]
  have hg3 : w3.heap[w2.heap.size]? = some (.cells b51 83 (0, 0)) := by rw [hw3]; exact heap_alloc_new _ _
  have HS3 : Hid (StB w3 w2.heap.size (begSt xs 0 0) (.slice none 0 0) (.slice none 0 0)) := (agg_b51 xs).stb rfl hg3
  have HG3 : Hid (∃ cs, w3.heap[w2.heap.size]? = some (.cells cs 83 (0, 0)) ∧ cs.size = 27) := ⟨_, hg3, rfl⟩
  have HR3 : Hid (∃ cs, w3.heap[w.heap.size]? = some (.cells cs 83 (0, 0)) ∧ cs.size = 27) := by
    obtain ⟨cs, h1, h2⟩ := unhide HG2
    exact ⟨cs, by rw [hw3]; exact (Below.heap_alloc _ _ _ hz2).trans h1, h2⟩
  have HB3 : Hid (Below w.heap.size w w3) := by rw [hw3]; exact (unhide HB2).alloc (Nat.le_of_lt hz2) _
  have hz3 : w2.heap.size < w3.heap.size := by rw [hw3]; simp
  clear hw3 hg3 HG2 HB2
  go_wp2_with fail
  go_loopw [4] (fun i wr => ∃ k : Nat, k ≤ xs.length ∧ i = .int .i64 k ∧ Hid (StB wr w2.heap.size (begSt xs k 0) (.slice none 0 0) (.slice none 0 0)) ∧ Hid (∃ cs, wr.heap[w2.heap.size]? = some (.cells cs 83 (0, 0)) ∧ cs.size = 27) ∧ Hid (Below w2.heap.size w3 wr)) (fun i _ => xs.length - (intOf i).toNat)
  case atStart => exact ⟨0, Nat.zero_le _, rfl, unhide HS3, unhide HG3, Below.refl _ _⟩
  case round =>
    obtain ⟨k, hk, rfl, HS, HG, HB⟩ := hrel
    by_cases hlt : k < xs.length
    · obtain ⟨b, off, rfl, hb, hc⟩ : ∃ b off, ao = some ⟨b, off, none⟩ ∧ b < w.heap.size ∧ ∀ i, i < xs.length → w.cell? ⟨b, off + i, none⟩ = some (.int .i64 (nth xs i)) := by
        rcases unhide HH with h | h
        · subst h; exact absurd hlt (by simp)
        · exact h
      have c : wr.cell? ⟨b, off + k, none⟩ = some (.int .i64 (nth xs k)) := ((unhide HB).cell (p := ⟨b, off + k, none⟩) (show b < w2.heap.size by omega)).trans (((unhide HB3).cell (p := ⟨b, off + k, none⟩) hb).trans (hc k hlt))
      have ck : wr.cell? ⟨w2.heap.size, k, none⟩ = some (.int .i64 ((begSt xs k 0).regs k)) := (unhide HS).1 k (by omega)
      have hf : ∀ o, wr.frozen? ⟨w2.heap.size, o, none⟩ = false := (unhide HS).2.2.2.2.2.2.2.2.2.1
      obtain ⟨y, hy⟩ : ∃ y, y = nth xs k := ⟨_, rfl⟩
      rw [← hy] at c
      have HY := hide hy
      have k16 : (k : Int) < 16 := by omega
      clear hc hy HS3 HG3
      go_wp2
      go_roundw
      case rel =>
        refine ⟨k + 1, by omega, by go_num, ?_, ?_, ((unhide HB).setCell (p := ⟨w2.heap.size, k, none⟩) (Nat.le_refl _) _)⟩
        · have := (unhide HS).set_reg k (by omega) (nth xs k)
          rw [begSt_reg, ← unhide HY] at this
          exact this
        · obtain ⟨cs, h1, h2⟩ := unhide HG
          exact ⟨_, heap_setCell_same wr _ k cs 83 _ h1, by rw [Array.size_setIfInBounds]; exact h2⟩
      case measure => simp [intOf]; omega
    · obtain rfl : k = xs.length := by omega
      go_wp2_with fail
      go_loopw [5] (fun i wr => ∃ m : Nat, m ≤ 4 ∧ i = .int .i64 m ∧ Hid (StB wr w2.heap.size (begSt xs xs.length m) (.slice none 0 0) (.slice none 0 0)) ∧ Hid (∃ cs, wr.heap[w2.heap.size]? = some (.cells cs 83 (0, 0)) ∧ cs.size = 27) ∧ Hid (Below w2.heap.size w3 wr)) (fun i _ => 4 - (intOf i).toNat)
      case atStart => exact ⟨0, Nat.zero_le _, rfl, unhide HS, unhide HG, unhide HB⟩
      case round =>
        obtain ⟨m, hm, rfl, HSm, HGm, HBm⟩ := hrel
        by_cases hlm : m < 4
        · have cm : wr.cell? ⟨w2.heap.size, 23 + m, none⟩ = some (.int .i64 ((begSt xs xs.length m).vars m)) := (unhide HSm).2.1 m hlm
          have hf : ∀ o, wr.frozen? ⟨w2.heap.size, o, none⟩ = false := (unhide HSm).2.2.2.2.2.2.2.2.2.1
          have m4 : (m : Int) < 4 := by omega
          go_wp2
          go_roundw
          case rel =>
            refine ⟨m + 1, by omega, by go_num, ?_, ?_, ((unhide HBm).setCell (p := ⟨w2.heap.size, 23 + m, none⟩) (Nat.le_refl _) _)⟩
            · have := (unhide HSm).set_var m hlm (-1)
              rw [begSt_var] at this
              exact this
            · obtain ⟨cs, h1, h2⟩ := unhide HGm
              exact ⟨_, heap_setCell_same wr _ (23 + m) cs 83 _ h1, by rw [Array.size_setIfInBounds]; exact h2⟩
          case measure => simp [intOf]; omega
        · obtain rfl : m = 4 := by omega
          obtain ⟨cs, hcs, hcn⟩ := unhide HGm
          obtain ⟨zs, hzs, hzn⟩ := unhide HR3
          have HA := hide (AggSt.done (AggSt.of_stb (unhide HSm) rfl hcs hcn))
          have HC := hide hcs
          have HZ := hide ((unhide HBm).block w.heap.size hz2 |>.trans hzs)
          have HCN := hide hcn
          have HZN := hide hzn
          clear hcs hzs hcn hzn
          iterate 21 (first | go_values | go_skip | go_guarded | go_step)
          refine wpList_load_row rfl 83 _ rfl w2.heap.size rfl 83 cs (0, 0) _ (unhide HC) Tryd.underlying83 rfl (by rw [unhide HCN]; exact Tryd.size83) ?_
          refine wpList_store_row rfl 83 _ _ rfl w.heap.size cs rfl rfl 83 zs (unhide HZ) (by rw [unhide HCN]; exact Tryd.size83) (by rw [unhide HZN, unhide HCN]) (unhide HA).plain ?_
          go_wp2_with fail
          refine bodyPost_ret (results_cell_row rfl _ _ w.heap.size 83 cs (0, 0) _ rfl (setRow_heap wr w.heap.size zs _ 83 _ (unhide HZ)) Tryd.underlying83 rfl (by rw [unhide HCN]; exact Tryd.size83)) rfl ?_
          exact ⟨cs, rfl, unhide HA, below_setRow ((unhide HB3).trans ((unhide HBm).mono (Nat.le_of_lt hz2))) (Nat.le_refl _) cs⟩
end Go.Proofs.YtoepcplbpochpaaDoor

/-
  What is live at each place: lodge.findLive.
-/
namespace Go.Proofs.YtoepcplbpochpaaDoor
open Go.RowKit

theorem gridV_plain (f : Nat → Nat → Bool) : ∀ i, i < 480 → (gridV f i).oneCell' = true := fun _ _ => rfl
theorem held_at {w : World} {ao : Option Addr} {L : List In4} (h : HeldIns w ao L) (hn : 0 < L.length) : ∃ b off, ao = some ⟨b, off, none⟩ ∧ b < w.heap.size ∧ LieI w b off L := by
  rcases h with h | h
  · subst h; exact absurd hn (by simp)
  · exact h

theorem two_new (w : World) (a b : Obj) : ((w.alloc a).alloc b).heap[w.heap.size + 1]? = some b := by
  rw [show w.heap.size + 1 = (w.alloc a).heap.size by simp]; exact heap_alloc_new _ _
theorem two_row (w : World) (a : Obj) (c c' : Array Value) (t : TypeId) : ((w.alloc a).alloc (.cells c t)).setRow (w.heap.size + 1) c' = (w.alloc a).alloc (.cells c' t) := by
  rw [show w.heap.size + 1 = (w.alloc a).heap.size by simp]; exact World.setRow_alloc_new _ _ _ _
/-- The world behind the making of two rows. -/
theorem two_rows (w : World) (T n : Nat) (c c' : Nat → Value) : ∃ w2, w2 = (w.alloc (.cells (rowA n c) T)).alloc (.cells (rowA n c') T) ∧ Hid (Rowd w2 w.heap.size T n c) ∧ Hid (Rowd w2 (w.heap.size + 1) T n c') ∧ Hid (Below w.heap.size w w2) := by
  refine ⟨_, rfl, ?_, two_new _ _ _, ((Below.refl _ _).alloc (Nat.le_refl _) _).alloc (by simp) _⟩
  exact (rowd_alloc w T n c).below ((Below.refl _ _).alloc (Nat.le_refl _) _)

set_option maxRecDepth 100000 in
set_option maxHeartbeats 4000000 in
theorem findLive_any (L : List In4) (ao : Option Addr) (cap : Nat) (w : World) (hH : HeldIns w ao L) (hL : Inside L) (hn1 : 1 ≤ L.length) (hn : L.length ≤ 40) :
    Calls Tryd.prog 67 #[.slice ao L.length cap] w fun e w' => e = .returned (.agg (rowA 480 (gridV (liveB L)))) ∧ Below w.heap.size w w' := by
  obtain ⟨b, off, rfl, hb, hI⟩ := held_at hH hn1
  have HI := hide hI
  have KU := hide (fun i (hi : i < L.length) B f w hB => update_any L i (by omega) (by have := (hL i hi).1; omega) (by have := (hL i hi).2; omega) B f w hB)
  have HIT := hide (fun r m => (Chaos.iter_succ (dnR L r L.length) m (fun _ => false)))
  clear hI hH hL
  go_enter Tryd.func67, Tryd.ntmps67
  go_wp2_with (refine wpList_store_row ?h1 108 ?h2 ?h3 ?h4 (w.heap.size + 1) ?h5 ?h6 ?h7 ?h8 ?h9 ?h10 ?h11 ?h12 ?h13 ?h14; case h4 => rfl)
  case h1 => rfl
  case h6 => rfl
  case h7 => rfl
  case h10 => exact two_new _ _ _
  case h11 => exact Tryd.size108
  case h12 => rfl
  case h13 => kernel_rfl
  rw [two_row, zero108]
  obtain ⟨w2, hw2, HA2, HB2, HL2⟩ := two_rows w 108 480 (fun _ => .bool false) (fun _ => .bool false)
  rw [← hw2]
  clear hw2
  go_wp2_with fail
  go_loopw [4] (fun i' wr => ∃ m : Nat, m ≤ L.length ∧ i' = .int .i64 m ∧ Hid (Rowd wr (w.heap.size + 1) 108 480 (gridV (fun i r => liveR L r m i))) ∧ Hid (Rowd wr w.heap.size 108 480 (fun _ => .bool false)) ∧ Hid (Below w.heap.size w wr)) (fun i' _ => L.length - (intOf i').toNat)
  case atStart => exact ⟨0, by omega, rfl, unhide HB2, unhide HA2, unhide HL2⟩
  case round =>
    obtain ⟨m, hm, rfl, HB, HA, HL⟩ := hrel
    by_cases hlt : m < L.length
    case neg =>
      have hml : m = L.length := by omega
      have HB' : Hid (Rowd wr (w.heap.size + 1) 108 480 (gridV (liveB L))) := by rw [hml] at HB; exact unhide HB
      clear HB
      iterate 60 (first | (refine wpList_load_row rfl 108 _ rfl (w.heap.size + 1) rfl 108 _ (0, 0) _ (unhide HB') Tryd.underlying108 rfl (by rw [rowA_size]; exact Tryd.size108) ?_; refine wpList_store_row rfl 108 _ _ rfl w.heap.size _ rfl rfl 108 _ (unhide HA) (by rw [rowA_size]; exact Tryd.size108) (by rw [rowA_size, rowA_size]) (rowA_plain (gridV_plain _)) ?_; clear HB') | go_values | go_skip | go_guarded | go_step | skip)
      go_wp2_with fail
      refine bodyPost_ret (results_cell_row rfl _ _ w.heap.size 108 _ (0, 0) _ rfl (setRow_heap wr w.heap.size _ _ 108 _ (unhide HA)) Tryd.underlying108 rfl (by rw [rowA_size]; exact Tryd.size108)) rfl ?_
      exact ⟨rfl, below_setRow (unhide HL) (Nat.le_refl _) _⟩
    obtain ⟨wo, rfl⟩ : ∃ wo, wo = wr := ⟨_, rfl⟩
    go_wp2_with fail
    go_loopw [5] (fun i' wr => ∃ (k : Nat) (j : Int) (g : Nat → Nat → Bool), k ≤ L.length ∧ j = (k : Int) - 1 ∧ i' = .int .i64 j ∧ Hid (Rowd wr (w.heap.size + 1) 108 480 (gridV g)) ∧ Hid (∀ r : Nat, dnR L r k (fun i => g i r) = dnR L r L.length (fun i => liveR L r m i)) ∧ Hid (Rowd wr w.heap.size 108 480 (fun _ => .bool false)) ∧ Hid (Below w.heap.size w wr)) (fun i' _ => (intOf i' + 1).toNat)
    case atStart => exact ⟨L.length, _, _, Nat.le_refl _, rfl, by go_num, unhide HB, fun _ => rfl, unhide HA, unhide HL⟩
    case round =>
      obtain ⟨k, j, g, hk, hj, rfl, HG, HD, HA1, HL1⟩ := hrel
      cases k with
      | zero =>
        obtain rfl : j = -1 := by omega
        clear hj
        go_wp2_with fail
        go_roundw
        case rel =>
          refine ⟨m + 1, by omega, by go_num, (unhide HG).congr (fun o ho => ?_), unhide HA1, unhide HL1⟩
          have := congrFun (unhide HD (o % 12)) (o / 12)
          unfold gridV
          rw [show g (o / 12) (o % 12) = dnR L ((o % 12 : Nat) : Int) L.length (fun i => liveR L ((o % 12 : Nat) : Int) m i) (o / 12) from this]
          show Value.bool _ = Value.bool (liveR L _ (m + 1) _)
          unfold liveR
          rw [unhide HIT]
        case measure => simp [intOf]; omega
      | succ k =>
        obtain rfl : j = (k : Int) := by omega
        clear hj
        have hki : (k : Int) < L.length := by omega
        obtain ⟨q0, q1, q2, q3⟩ := ((unhide HI) k (by omega)).below (unhide HL1) hb
        have KU' := hide (unhide KU k (by omega) (w.heap.size + 1) g wr (unhide HG))
        have hsz := (unhide HA1).lt
        go_wp2_with fail
        refine (unhide KU').mono ?_
        rintro e w5 ⟨rfl, hg5, hk5⟩
        have HG5 : Hid (Rowd w5 (w.heap.size + 1) 108 480 (gridV (fun i r => upR L r k (fun i => g i r) i))) := hg5.congr (fun o ho => by unfold gridV upTo; rw [if_pos (by omega)])
        have HA5 : Hid (Rowd w5 w.heap.size 108 480 (fun _ => .bool false)) := (unhide HA1).keep hk5 (by omega)
        have HL5 : Hid (Below w.heap.size w w5) := (unhide HL1).trans (hk5.below (Nat.le_of_lt hsz) (fun k hk e => by omega))
        clear hg5 hk5 q0 q1 q2 q3 hsz
        go_wp2_with fail
        go_roundw
        case rel => exact ⟨k, _, _, by omega, rfl, rfl, unhide HG5, fun r => unhide HD r, unhide HA5, unhide HL5⟩
        case measure => simp [intOf]
end Go.Proofs.YtoepcplbpochpaaDoor

/-
  Which registers collide: (*lodge.collisions).add, lodge.firstFree, lodge.countColours.
-/
namespace Go.Proofs.YtoepcplbpochpaaDoor
open Go.RowKit

theorem gcell {w : World} {B T n : Nat} {f : Nat → Nat → Bool} (h : Rowd w B T n (gridV f)) {i r : Nat} (hr : r < 12) (ho : i * 12 + r < n) : w.cell? ⟨B, i * 12 + r, none⟩ = some (.bool (f i r)) := by
  rw [h.cell ho]; unfold gridV; rw [show (i * 12 + r) / 12 = i by omega, show (i * 12 + r) % 12 = r by omega]
theorem gset {w : World} {B T n : Nat} {f g : Nat → Nat → Bool} (h : Rowd w B T n (gridV f)) {i r : Nat} (hr : r < 12) {b : Bool} (hg : ∀ j q, q < 12 → g j q = if j = i ∧ q = r then b else f j q) :
    Rowd (w.setCell ⟨B, i * 12 + r, none⟩ (.bool b)) B T n (gridV g) := by
  refine (h.set (i * 12 + r) (.bool b)).congr (fun o ho => ?_)
  unfold gridV
  rw [hg (o / 12) (o % 12) (by omega)]
  by_cases e : o = i * 12 + r
  · rw [if_pos e, if_pos ⟨by omega, by omega⟩]
  · rw [if_neg e, if_neg (fun h => e (by omega))]

/-- A set of registers; a list of twelve numbers. -/
def setV (s : Nat → Bool) : Nat → Value := fun q => .bool (s q)
def numV (c : Nat → Nat) : Nat → Value := fun q => .int .i64 (c q)

/-- r collides with the first k of a set. -/
def hitTo (r : Nat) (s : Nat → Bool) (h : Nat → Nat → Bool) (k : Nat) : Nat → Nat → Bool := fun a b => h a b || (a == r && (decide (b < k) && s b)) || (b == r && (decide (a < k) && s a))
theorem hitTo_zero (r : Nat) (s : Nat → Bool) (h : Nat → Nat → Bool) : hitTo r s h 0 = h := by
  funext a b; unfold hitTo; simp
theorem hitTo_skip {r : Nat} {s : Nat → Bool} (h : Nat → Nat → Bool) {k : Nat} (hs : s k = false) : hitTo r s h (k + 1) = hitTo r s h k := by
  have key : ∀ a, (decide (a < k + 1) && s a) = (decide (a < k) && s a) := fun a => by
    by_cases e : a = k
    · subst e; rw [hs]; simp
    · congr 1; exact decide_eq_decide.2 (by omega)
  funext a b; unfold hitTo; rw [key, key]
theorem hitTo_step {r : Nat} {s : Nat → Bool} (h : Nat → Nat → Bool) {k : Nat} (hs : s k = true) (a b : Nat) : hitTo r s h (k + 1) a b = if a = k ∧ b = r then true else if a = r ∧ b = k then true else hitTo r s h k a b := by
  have key : ∀ a, (decide (a < k + 1) && s a) = (decide (a < k) && s a || a == k) := fun a => by
    by_cases e : a = k
    · subst e; rw [hs]; simp
    · rw [show (a == k) = false by rw [beq_eq_false_iff_ne]; exact e, Bool.or_false]; congr 1; exact decide_eq_decide.2 (by omega)
  unfold hitTo
  rw [key, key]
  by_cases e1 : a = k ∧ b = r
  · rw [if_pos e1]; obtain ⟨rfl, rfl⟩ := e1; simp
  rw [if_neg e1]
  by_cases e2 : a = r ∧ b = k
  · rw [if_pos e2]; obtain ⟨rfl, rfl⟩ := e2; simp
  rw [if_neg e2]
  have f1 : (a == r && (decide (b < k) && s b || b == k)) = (a == r && (decide (b < k) && s b)) := by
    by_cases e : a = r
    · rw [show (b == k) = false by rw [beq_eq_false_iff_ne]; exact fun h => e2 ⟨e, h⟩, Bool.or_false]
    · rw [show (a == r) = false by rw [beq_eq_false_iff_ne]; exact e]; rfl
  have f2 : (b == r && (decide (a < k) && s a || a == k)) = (b == r && (decide (a < k) && s a)) := by
    by_cases e : b = r
    · rw [show (a == k) = false by rw [beq_eq_false_iff_ne]; exact fun h => e1 ⟨h, e⟩, Bool.or_false]
    · rw [show (b == r) = false by rw [beq_eq_false_iff_ne]; exact e]; rfl
  rw [f1, f2]
theorem hitTo_all (r : Nat) (s : Nat → Bool) (h : Nat → Nat → Bool) {a b : Nat} (ha : a < 12) (hb : b < 12) : hitTo r s h 12 a b = hitAdd r s h a b := by
  have key : ∀ a : Nat, (a == r) = ((a : Int) == (r : Int)) := fun a => by
    by_cases e : a = r
    · subst e; simp
    · rw [show (a == r) = false by rw [beq_eq_false_iff_ne]; exact e, show ((a : Int) == (r : Int)) = false by rw [beq_eq_false_iff_ne]; omega]
  unfold hitTo hitAdd
  rw [decide_eq_true hb, decide_eq_true ha, Bool.true_and, Bool.true_and, key, key]

/-- A row that was boxed. -/
theorem box_row (w : World) (T n : Nat) (c : Nat → Value) : ∃ w2, w2 = w.alloc (.cells (rowA n c) T) ∧ Hid (Rowd w2 w.heap.size T n c) ∧ Hid (Below w.heap.size w w2) ∧ w.heap.size < w2.heap.size :=
  ⟨_, rfl, rowd_alloc w T n c, (Below.refl _ _).alloc (Nat.le_refl _) _, by simp⟩

set_option maxRecDepth 100000 in
set_option maxHeartbeats 4000000 in
theorem add_any (B : Nat) (h : Nat → Nat → Bool) (r : Nat) (hr : r < 12) (s : Nat → Bool) (w : World) (hB : Rowd w B 184 144 (gridV h)) :
    Calls Tryd.prog 137 #[.pointer (some ⟨B, 0, none⟩), .int .i64 r, .agg (rowA 12 (setV s))] w fun e w' => e = .returned (.tuple #[]) ∧ Rowd w' B 184 144 (gridV (hitAdd r s h)) ∧ Keep (fun k => k = B) w w' := by
  have HB := hide hB
  have hne : w.heap.size ≠ B := by have := hB.lt; omega
  have hri : (r : Int) < 12 := by omega
  clear hB
  obtain ⟨w1, hw1, HC1, HL1, hz1⟩ := box_row w 105 12 (setV s)
  have HW := hide hw1
  have HB1 : Hid (Rowd w1 B 184 144 (gridV (hitTo r s h 0))) := by rw [hitTo_zero]; exact (unhide HB).below (unhide HL1)
  have HK1 : Hid (Keep (fun k => k = B) w w1) := Keep.of_below (unhide HL1) _
  clear hw1 HL1 HB
  go_enter Tryd.func137, Tryd.ntmps137
  go_wp2_with fail
  rw [← unhide HW]
  go_wp2_with fail
  go_loopw [6] (fun i' wr => ∃ k : Nat, k ≤ 12 ∧ i' = .int .i64 k ∧ Hid (Rowd wr B 184 144 (gridV (hitTo r s h k))) ∧ Hid (Rowd wr w.heap.size 105 12 (setV s)) ∧ Hid (Keep (fun k => k = B) w wr)) (fun i' _ => 12 - (intOf i').toNat)
  case atStart => exact ⟨0, by omega, rfl, unhide HB1, unhide HC1, unhide HK1⟩
  case round =>
    obtain ⟨k, hk, rfl, HB, HC, HK⟩ := hrel
    by_cases hlt : k < 12
    case neg =>
      obtain rfl : k = 12 := by omega
      go_wp2_with fail
      go_returns
      exact ⟨rfl, (unhide HB).congr (fun o ho => by unfold gridV; rw [hitTo_all r s h (by omega) (by omega)]), unhide HK⟩
    have hki : (k : Int) < 12 := by omega
    have c := (unhide HC).cell hlt
    unfold setV at c
    obtain ⟨t, ht⟩ : ∃ t, t = s k := ⟨_, rfl⟩
    rw [← ht] at c
    have HT := hide ht
    clear ht
    cases t
    · go_wp2_with fail
      go_roundw
      case rel => exact ⟨k + 1, by omega, by go_num, by rw [hitTo_skip h (unhide HT).symm]; exact unhide HB, unhide HC, unhide HK⟩
      case measure => simp [intOf]; omega
    · have hf : ∀ o, wr.frozen? ⟨B, o, none⟩ = false := (unhide HB).free
      have c1 := gcell (unhide HB) (i := r) (r := k) hlt (by omega)
      have c2 := gcell (unhide HB) (i := k) (r := r) hr (by omega)
      obtain ⟨o1, ho1⟩ : ∃ v, v = Value.bool (hitTo r s h k r k) := ⟨_, rfl⟩
      obtain ⟨o2, ho2⟩ : ∃ v, v = Value.bool (hitTo r s h k k r) := ⟨_, rfl⟩
      rw [← ho1] at c1
      rw [← ho2] at c2
      have HX := hide (gset (g := fun a b => if a = r ∧ b = k then true else hitTo r s h k a b) (unhide HB) (i := r) (r := k) hlt (b := true) (fun _ _ _ => rfl))
      have hf2 : ∀ o, (wr.setCell ⟨B, r * 12 + k, none⟩ (.bool true)).frozen? ⟨B, o, none⟩ = false := (unhide HX).free
      obtain ⟨o3, ho3⟩ : ∃ v, (wr.setCell ⟨B, r * 12 + k, none⟩ (.bool true)).cell? ⟨B, k * 12 + r, none⟩ = some v := ⟨_, gcell (unhide HX) (i := k) (r := r) hr (by omega)⟩
      clear ho1 ho2
      go_wp2_with fail
      go_roundw
      case rel =>
        refine ⟨k + 1, by omega, by go_num, ?_, ?_, keep_set (keep_set (unhide HK) _ _) _ _⟩
        · exact gset (unhide HX) (i := k) (r := r) hr (fun a b _ => hitTo_step h (unhide HT).symm a b)
        · exact ((unhide HC).of_block (heap_setCell_other _ _ _ _ hne)).of_block (heap_setCell_other _ _ _ _ hne)
      case measure => simp [intOf]; omega
end Go.Proofs.YtoepcplbpochpaaDoor

/-
  Which registers collide: lodge.findCollisions.
-/
namespace Go.Proofs.YtoepcplbpochpaaDoor
open Go.RowKit

/-- A program that was boxed. -/
def ProgB (w : World) (B : Nat) (P R V : Int) (sl : Value) : Prop := w.heap[B]? = some (.cells #[.int .i64 P, .int .i64 R, .int .i64 V, sl] 24 (0, 0))
theorem ProgB.c0 {w : World} {B : Nat} {P R V : Int} {sl : Value} (h : ProgB w B P R V sl) : w.cell? ⟨B, 0, none⟩ = some (.int .i64 P) := (cell_of_row w B 0 _ 24 (0, 0) h).trans rfl
theorem ProgB.c1 {w : World} {B : Nat} {P R V : Int} {sl : Value} (h : ProgB w B P R V sl) : w.cell? ⟨B, 1, none⟩ = some (.int .i64 R) := (cell_of_row w B 1 _ 24 (0, 0) h).trans rfl
theorem ProgB.c2 {w : World} {B : Nat} {P R V : Int} {sl : Value} (h : ProgB w B P R V sl) : w.cell? ⟨B, 2, none⟩ = some (.int .i64 V) := (cell_of_row w B 2 _ 24 (0, 0) h).trans rfl
theorem ProgB.c3 {w : World} {B : Nat} {P R V : Int} {sl : Value} (h : ProgB w B P R V sl) : w.cell? ⟨B, 3, none⟩ = some sl := (cell_of_row w B 3 _ 24 (0, 0) h).trans rfl
theorem ProgB.lt {w : World} {B : Nat} {P R V : Int} {sl : Value} (h : ProgB w B P R V sl) : B < w.heap.size := (Array.getElem?_eq_some_iff.1 h).1
theorem ProgB.below {w w' : World} {B : Nat} {P R V : Int} {sl : Value} (h : ProgB w B P R V sl) (hb : Below w.heap.size w w') : ProgB w' B P R V sl := (hb.block B h.lt).trans h
theorem ProgB.keep {S : Nat → Prop} {w w' : World} {B : Nat} {P R V : Int} {sl : Value} (h : ProgB w B P R V sl) (hk : Keep S w w') (hS : ¬ S B) : ProgB w' B P R V sl := (hk.block B h.lt hS).trans h
theorem progb_alloc (w : World) (P R V : Int) (sl : Value) : ProgB (w.alloc (.cells #[.int .i64 P, .int .i64 R, .int .i64 V, sl] 24)) w.heap.size P R V sl := heap_alloc_new _ _
theorem below_alloc (w : World) (o : Obj) : Below w.heap.size w (w.alloc o) := (Below.refl _ _).alloc (Nat.le_refl _) _
theorem at_alloc (w : World) (k : Nat) (o : Obj) (hk : k = w.heap.size) : (w.alloc o).heap[k]? = some o := by subst hk; exact heap_alloc_new _ _

theorem zero184 : Tryd.zeroCells184 = rowA 144 (fun _ => .bool false) := by kernel_rfl
theorem Tryd.size184 : (Tryd.prog.info? 184).map (·.size) = some 144 := by kernel_rfl
theorem Tryd.size105 : (Tryd.prog.info? 105).map (·.size) = some 12 := by kernel_rfl

/-- Twelve cells in the midst of a block. -/
def cells12 (s : Nat → Bool) : List Value := (List.range 12).map (setV s)
theorem range12 {w : World} {B T n : Nat} {f : Nat → Nat → Bool} (h : Rowd w B T n (gridV f)) (i : Nat) (hi : i * 12 + 12 ≤ n) : w.rangeAt B (i * 12) (cells12 (f i)) := fun j v hv => by
  unfold cells12 at hv
  have hj : j < 12 := by
    rcases Nat.lt_or_ge j 12 with h | h
    · exact h
    · rw [List.getElem?_eq_none (by simp; exact h)] at hv; cases hv
  rw [List.getElem?_map, List.getElem?_range hj] at hv
  rw [gcell h hj (by omega)]
  exact hv
theorem size12 (s : Nat → Bool) : (Tryd.prog.info? 105).map (·.size) = some (cells12 s).length := by
  unfold cells12; rw [List.length_map, List.length_range]; exact Tryd.size105
theorem agg12 (s : Nat → Bool) : Value.agg (cells12 s).toArray = .agg (rowA 12 (setV s)) := rfl

/-- The world behind the head of a function that takes a program and what is live, and gives a row. -/
theorem open_pl (w : World) (P R V : Int) (sl : Value) (n m T : Nat) (c d : Nat → Value) : ∃ w1, w1 = ((w.alloc (.cells #[.int .i64 P, .int .i64 R, .int .i64 V, sl] 24)).alloc (.cells (rowA n c) 108)).alloc (.cells (rowA m d) T) ∧
    Hid (ProgB w1 w.heap.size P R V sl) ∧ Hid (Rowd w1 (w.heap.size + 1) 108 n c) ∧ Hid (Rowd w1 (w.heap.size + 1 + 1) T m d) ∧ Hid (Below w.heap.size w w1) ∧ w.heap.size + 1 + 1 < w1.heap.size := by
  refine ⟨_, rfl, ?_, ?_, ?_, ?_, by simp⟩
  · exact ((progb_alloc w P R V sl).below (below_alloc _ _)).below (below_alloc _ _)
  · exact (show Rowd _ (w.heap.size + 1) 108 n c from two_new _ _ _).below (below_alloc _ _)
  · exact at_alloc _ _ _ (by simp)
  · exact ((below_alloc _ _).alloc (by simp) _).alloc (by simp; omega) _

set_option maxRecDepth 100000 in
set_option maxHeartbeats 4000000 in
theorem collide_any (P V : Int) (R : Nat) (L : List In4) (ao : Option Addr) (cap : Nat) (w : World) (hH : HeldIns w ao L) (hR : R ≤ 12) (hn1 : 1 ≤ L.length) (hn : L.length ≤ 40)
    (hd : ∀ i, i < L.length → isWr (inAt L i).op = true → 0 ≤ (inAt L i).d ∧ (inAt L i).d < 12 ∧ i + 1 < L.length) :
    Calls Tryd.prog 124 #[.agg #[.int .i64 P, .int .i64 R, .int .i64 V, .slice ao L.length cap], .agg (rowA 480 (gridV (liveB L)))] w fun e w' => e = .returned (.agg (rowA 144 (gridV (hitB L R)))) ∧ Below w.heap.size w w' := by
  obtain ⟨b, off, rfl, hb, hI⟩ := held_at hH hn1
  have HI := hide hI
  have KA := hide add_any
  have HD := hide hd
  clear hI hH hd
  go_enter Tryd.func124, Tryd.ntmps124
  go_upto_region 1 with fail
  obtain ⟨w1, hw1, HP1, HV1, HR1, HL1, hz1⟩ := open_pl w P R V (.slice (some ⟨b, off, none⟩) L.length cap) 480 144 184 (gridV (liveB L)) (fun _ => .bool false)
  rw [zero184, ← hw1]
  clear hw1
  go_wp2_with (refine wpList_store_row ?h1 184 ?h2 ?h3 ?h4 w1.heap.size ?h5 ?h6 ?h7 ?h8 ?h9 ?h10 ?h11 ?h12 ?h13 ?h14; case h4 => rfl)
  case h1 => rfl
  case h6 => rfl
  case h7 => rfl
  case h10 => exact heap_alloc_new _ _
  case h11 => exact Tryd.size184
  case h12 => rfl
  case h13 => kernel_rfl
  rw [World.setRow_alloc_new, zero184]
  obtain ⟨w2, hw2, HB2, HL2', hz2⟩ := box_row w1 184 144 (fun _ => .bool false)
  rw [← hw2]
  clear hw2
  have HP2 := hide ((unhide HP1).below (unhide HL2'))
  have HV2 := hide ((unhide HV1).below (unhide HL2'))
  have HR2 := hide ((unhide HR1).below (unhide HL2'))
  have HL2 : Hid (Below w.heap.size w w2) := (unhide HL1).trans ((unhide HL2').mono (by omega))
  clear HP1 HV1 HR1 HL1 HL2'
  go_wp2_with fail
  go_loopw [6] (fun i' wr => ∃ k : Nat, k ≤ R ∧ i' = .int .i64 k ∧ Hid (Rowd wr w1.heap.size 184 144 (gridV (hitsR L k))) ∧ Hid (ProgB wr w.heap.size P R V (.slice (some ⟨b, off, none⟩) L.length cap)) ∧ Hid (Rowd wr (w.heap.size + 1) 108 480 (gridV (liveB L))) ∧ Hid (Rowd wr (w.heap.size + 1 + 1) 184 144 (fun _ => .bool false)) ∧ Hid (Below w.heap.size w wr)) (fun i' _ => R - (intOf i').toNat)
  case atStart => exact ⟨0, by omega, rfl, unhide HB2, unhide HP2, unhide HV2, unhide HR2, unhide HL2⟩
  case round =>
    obtain ⟨k, hk, rfl, HB, HP, HV, HR, HL⟩ := hrel
    have p1 := (unhide HP).c1
    by_cases hlt : k < R
    · have hki : (k : Int) < 12 := by omega
      have c := gcell (unhide HV) (i := 0) (r := k) (by omega) (by omega)
      obtain ⟨t, ht⟩ : ∃ t, t = liveB L 0 k := ⟨_, rfl⟩
      rw [← ht] at c
      rw [Nat.zero_mul, Nat.zero_add] at c
      have HT := hide ht
      clear ht
      cases t
      · go_wp2_with fail
        go_roundw
        case rel => exact ⟨k + 1, by omega, by go_num, by unfold hitsR; rw [if_neg (by rw [← unhide HT]; decide)]; exact unhide HB, unhide HP, unhide HV, unhide HR, unhide HL⟩
        case measure => simp [intOf]; omega
      · have HX := hide (range12 (unhide HV) 0 (by omega))
        rw [Nat.zero_mul] at HX
        have KA' := hide (unhide KA w1.heap.size (hitsR L k) k (by omega) (liveB L 0) wr (unhide HB))
        iterate 60 (first | (refine wpList_load_mid rfl 105 _ rfl (w.heap.size + 1) 0 rfl (cells12 (liveB L 0)) _ (unhide HX) Tryd.underlying105 rfl (size12 _) ?_; rw [agg12]; clear HX) | go_values | go_skip | go_guarded | go_step | skip)
        refine (unhide KA').mono ?_
        rintro e w5 ⟨rfl, hg5, hk5⟩
        have HG5 : Hid (Rowd w5 w1.heap.size 184 144 (gridV (hitsR L (k + 1)))) := by
          show Rowd w5 w1.heap.size 184 144 (gridV (if liveB L 0 k = true then hitAdd k (liveB L 0) (hitsR L k) else hitsR L k))
          rw [if_pos (unhide HT).symm]; exact hg5
        have HP5 := hide ((unhide HP).keep hk5 (by omega))
        have HV5 := hide ((unhide HV).keep hk5 (by omega))
        have HR5 := hide ((unhide HR).keep hk5 (by omega))
        have HL5 : Hid (Below w.heap.size w w5) := (unhide HL).trans (hk5.below (unhide HL).size (fun k hk e => by omega))
        clear hg5 hk5 KA'
        go_wp2_with fail
        go_roundw
        case rel => exact ⟨k + 1, by omega, by go_num, unhide HG5, unhide HP5, unhide HV5, unhide HR5, unhide HL5⟩
        case measure => simp [intOf]; omega
    · have hkR : k = R := by omega
      have HB' : Hid (Rowd wr w1.heap.size 184 144 (gridV (hitsC L R 0))) := by rw [hkR] at HB; exact unhide HB
      clear HB hkR HP2 HV2 HR2 HL2 HB2
      go_wp2_with fail
      obtain ⟨wo, rfl⟩ : ∃ wo, wo = wr := ⟨_, rfl⟩
      go_loopw [7] (fun i' wr => ∃ k : Nat, k ≤ L.length ∧ i' = .int .i64 k ∧ Hid (Rowd wr w1.heap.size 184 144 (gridV (hitsC L R k))) ∧ Hid (ProgB wr w.heap.size P R V (.slice (some ⟨b, off, none⟩) L.length cap)) ∧ Hid (Rowd wr (w.heap.size + 1) 108 480 (gridV (liveB L))) ∧ Hid (Rowd wr (w.heap.size + 1 + 1) 184 144 (fun _ => .bool false)) ∧ Hid (Below w.heap.size w wr)) (fun i' _ => L.length - (intOf i').toNat)
      case atStart => exact ⟨0, by omega, rfl, unhide HB', unhide HP, unhide HV, unhide HR, unhide HL⟩
      case round =>
        clear HB' HP HV HR HL p1
        obtain ⟨k, hk, rfl, HB, HP, HV, HR, HL⟩ := hrel
        have p3 := (unhide HP).c3
        by_cases hlt : k < L.length
        · have hki : (k : Int) < L.length := by omega
          obtain ⟨q0, q1, q2, q3⟩ := ((unhide HI) k hlt).below (unhide HL) hb
          obtain ⟨x, hx⟩ : ∃ x, x = inAt L k := ⟨_, rfl⟩
          rw [← hx] at q0 q1 q2 q3
          have KW := hide (isWr_any x.op)
          obtain ⟨t, ht⟩ : ∃ t, t = isWr x.op := ⟨_, rfl⟩
          rw [← ht] at KW
          have HT := hide ht
          have HX := hide hx
          clear ht hx
          cases t
          · go_wp2_with (go_at_call 136; refine (unhide KW _).mono ?_; rintro e w2 ⟨rfl, rfl⟩)
            go_roundw
            case rel =>
              have hb := below_alloc wr (.cells #[.int .i64 x.op, .int .i64 x.d, .int .i64 x.a, .int .i64 x.b] 77)
              refine ⟨k + 1, by omega, by go_num, ?_, (unhide HP).below hb, (unhide HV).below hb, (unhide HR).below hb, (unhide HL).trans (hb.mono (unhide HL).size)⟩
              show Rowd _ w1.heap.size 184 144 (gridV (if isWr (inAt L k).op = true then hitAdd (inAt L k).d (liveB L (k + 1)) (hitsC L R k) else hitsC L R k))
              rw [← unhide HX, ← unhide HT, if_neg (by decide)]
              exact (unhide HB).below hb
            case measure => simp [intOf]; omega
          · obtain ⟨d0, d1, k1⟩ := unhide HD k hlt (by rw [← unhide HX]; exact (unhide HT).symm)
            rw [← unhide HX] at d0 d1
            obtain ⟨dn, hdn⟩ : ∃ dn : Nat, x.d = dn := ⟨x.d.toNat, by omega⟩
            have HDN := hide hdn
            clear hdn
            obtain ⟨w3, hw3, hq3, HL3, hz3⟩ := box4 wr x
            have HW3 := hide hw3
            have HB3 := hide ((unhide HB).below (unhide HL3))
            have HP3 := hide ((unhide HP).below (unhide HL3))
            have HV3 := hide ((unhide HV).below (unhide HL3))
            have HR3 := hide ((unhide HR).below (unhide HL3))
            have HLw : Hid (Below w.heap.size w w3) := (unhide HL).trans ((unhide HL3).mono (unhide HL).size)
            have hlt1 := (unhide HR).lt
            have hB1 := (unhide HB).lt
            obtain ⟨y0, y1, y2, y3⟩ := hq3
            go_upto_region 12 with (go_at_call 136; refine (unhide KW _).mono ?_; rintro e w2 ⟨rfl, rfl⟩)
            rw [← unhide HW3]
            clear hw3 q0 q1 q2 q3 HB HP HV HR HL HL3 p3 KW
            rw [unhide HDN] at y1
            have k2 : (k : Int) + 1 < 40 := by omega
            have k3 : 0 ≤ (k : Int) + 1 := by omega
            have kw : IntKind.i64.wrap ((k : Int) + 1) = (k : Int) + 1 := by rw [IntKind.wrap_i64]; omega
            have kn : ((k : Int) + 1).toNat = k + 1 := by omega
            have KA' := hide (unhide KA w1.heap.size (hitsC L R k) dn (by have := unhide HDN; omega) (liveB L (k + 1)))
            have hX := range12 (unhide HV3) (k + 1) (by omega)
            have hu := Tryd.underlying105
            have hs := size12 (liveB L (k + 1))
            go_region_held3 (fun w' => w'.cell? ⟨wr.heap.size, 1, none⟩ = some (.int .i64 (dn : Int)) ∧ w'.rangeAt (w.heap.size + 1) ((k + 1) * 12) (cells12 (liveB L (k + 1)))) (first | assumption | (constructor <;> assumption))
              ((go_at_call 137; refine (unhide KA' _ (unhide HB3).drew).mono ?_; rintro e w5 ⟨rfl, hg5, hk5'⟩; have hk5 : Keep (fun k => k = w1.heap.size) w3 w5 := ⟨hk5'.os, hk5'.tape, hk5'.output, hk5'.size, hk5'.block⟩; clear hk5'; have HG5 := hide hg5; have HP5 := hide ((unhide HP3).keep hk5 (by omega)); have HV5 := hide ((unhide HV3).keep hk5 (by omega)); have HR5 := hide ((unhide HR3).keep hk5 (by omega)); have HL5 : Hid (Below w.heap.size w w5) := (unhide HLw).trans (hk5.below (unhide HLw).size (fun k hk e => by omega)); have z1 : w5.cell? ⟨wr.heap.size, 1, none⟩ = some (.int .i64 (dn : Int)) := (World.cell?_of_block (hk5.block wr.heap.size hz3 (by omega))).trans y1; have z2 := range12 (unhide HV5) (k + 1) (by omega); clear hg5 hk5 hX y0 y1 y2 y3))
            clear z1 z2
            go_wp2_with fail
            go_roundw
            case rel =>
              refine ⟨k + 1, by omega, by go_num, ?_, unhide HP5, unhide HV5, unhide HR5, unhide HL5⟩
              show Rowd _ w1.heap.size 184 144 (gridV (if isWr (inAt L k).op = true then hitAdd (inAt L k).d (liveB L (k + 1)) (hitsC L R k) else hitsC L R k))
              rw [← unhide HX, ← unhide HT, if_pos rfl, unhide HDN]
              exact unhide HG5
            case measure => simp [intOf]; omega
        · have hkL : k = L.length := by omega
          have HB' : Hid (Rowd wr w1.heap.size 184 144 (gridV (hitB L R))) := by rw [hkL] at HB; exact unhide HB
          clear HB
          iterate 60 (first | (refine wpList_load_row rfl 184 _ rfl w1.heap.size rfl 184 _ (0, 0) _ (unhide HB') Tryd.underlying184 rfl (by rw [rowA_size]; exact Tryd.size184) ?_; refine wpList_store_row rfl 184 _ _ rfl (w.heap.size + 1 + 1) _ rfl rfl 184 _ (unhide HR) (by rw [rowA_size]; exact Tryd.size184) (by rw [rowA_size, rowA_size]) (rowA_plain (fun _ _ => rfl)) ?_; clear HB') | go_values | go_skip | go_guarded | go_step | skip)
          go_wp2_with fail
          refine bodyPost_ret (results_cell_row rfl _ _ (w.heap.size + 1 + 1) 184 _ (0, 0) _ rfl (setRow_heap wr (w.heap.size + 1 + 1) _ _ 184 _ (unhide HR)) Tryd.underlying184 rfl (by rw [rowA_size]; exact Tryd.size184)) rfl ?_
          exact ⟨rfl, below_setRow (unhide HL) (by omega) _⟩
end Go.Proofs.YtoepcplbpochpaaDoor
