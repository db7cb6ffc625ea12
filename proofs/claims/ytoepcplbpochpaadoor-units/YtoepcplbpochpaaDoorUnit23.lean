/-
  How the program's own run of a unit begins: mach.begin.
-/
import Derived.Test.YtoepcplbpochpaaDoorUnit20
import Derived.Test.YtoepcplbpochpaaDoorUnit14
import Derived.Deep.WholeRow

namespace Go.Proofs.YtoepcplbpochpaaDoor
open Go.RowKit

theorem Tryd.size97 : (Tryd.prog.info? 97).map (·.size) = some 40 := by kernel_rfl
def b81 (tv : Value) : Array Value := #[.int .i64 0, .int .i64 0, .int .i64 0, .int .i64 0, .int .i64 0, .int .i64 0, .int .i64 0, .int .i64 0, .int .i64 0, .int .i64 0, .int .i64 0, .int .i64 0, .int .i64 0, .int .i64 0, .int .i64 0, .int .i64 0, .int .i64 0, .bool true, .int .i64 2, .int .i64 0, .int .i64 0, .slice none 0 0, .slice none 0 0, .int .i64 0, .int .i64 0, .int .i64 0, .int .i64 0, .int .i64 0, .int .i64 0, .int .i64 0, .int .i64 0, .int .i64 0, .int .i64 0, .int .i64 0, .int .i64 0, .int .i64 0, .int .i64 0, .int .i64 0, .int .i64 0, tv]

/-- The cells of a unit's run. -/
def AggU (cs : Array Value) (s : St) (vo vs tv : Value) : Prop :=
  cs.size = 40 ∧ (∀ i, i < 16 → cs[i]? = some (.int .i64 (s.regs i))) ∧ (∀ i, i < 16 → cs[23 + i]? = some (.int .i64 (s.vars i))) ∧
  cs[16]? = some (.int .i64 (s.at_ : Int)) ∧ cs[17]? = some (.bool s.on) ∧ cs[18]? = some (.int .i64 s.kind) ∧ cs[19]? = some (.int .i64 s.val) ∧ cs[20]? = some (.int .i64 (s.steps : Int)) ∧ cs[21]? = some vo ∧ cs[22]? = some vs ∧ cs[39]? = some tv
theorem AggU.stb {w : World} {B : Nat} {cs : Array Value} {t : TypeId} {s : St} {vo vs tv : Value} {R : List Rg} (h : AggU cs s vo vs tv) (hE : s.env = unitEnv R (some tv)) (hg : w.heap[B]? = some (.cells cs t (0, 0))) : StB w B s vo vs := by
  have c : ∀ o, w.cell? ⟨B, o, none⟩ = cs[o]? := fun o => cell_of_row w B o cs t (0, 0) hg
  obtain ⟨hn, h0, h1, h2, h3, h4, h5, h6, h7, h8, h9⟩ := h
  refine ⟨fun i hi => (c _).trans (h0 i hi), fun i hi => (c _).trans (h1 i (by rw [hE] at hi; exact hi)), (c _).trans h2, (c _).trans h3, (c _).trans h4, (c _).trans h5, (c _).trans h6, (c _).trans h7, (c _).trans h8, fun o => by simp [World.frozen?, hg], fun o ho => ?_⟩
  rw [hE] at ho ⊢
  have ho' : 39 ≤ o := ho
  show _ = if o = 39 then some tv else none
  rw [c o]
  by_cases e : o = 39
  · rw [if_pos e, e]; exact h9
  · rw [if_neg e, Array.getElem?_eq_none (by rw [hn]; omega)]
theorem AggU.of_stb {w : World} {B : Nat} {cs : Array Value} {t : TypeId} {s : St} {vo vs tv : Value} {R : List Rg} (h : StB w B s vo vs) (hE : s.env = unitEnv R (some tv)) (hg : w.heap[B]? = some (.cells cs t (0, 0))) (hn : cs.size = 40) : AggU cs s vo vs tv := by
  have c : ∀ o, cs[o]? = w.cell? ⟨B, o, none⟩ := fun o => (cell_of_row w B o cs t (0, 0) hg).symm
  obtain ⟨h0, h1, h2, h3, h4, h5, h6, h7, h8, _, hx⟩ := h
  refine ⟨hn, fun i hi => (c _).trans (h0 i hi), fun i hi => (c _).trans (h1 i (by rw [hE]; exact hi)), (c _).trans h2, (c _).trans h3, (c _).trans h4, (c _).trans h5, (c _).trans h6, (c _).trans h7, (c _).trans h8, (c _).trans ?_⟩
  have := hx 39 (by rw [hE]; exact Nat.le_refl _)
  rw [hE] at this
  exact this
theorem AggU.plain {cs : Array Value} {s : St} {ao : Option Addr} {n cap : Nat} (h : AggU cs s (.slice none 0 0) (.slice none 0 0) (.slice ao n cap)) : cs.all (·.oneCell') = true := by
  obtain ⟨hn, h0, h1, h2, h3, h4, h5, h6, h7, h8, h9⟩ := h
  rw [Array.all_eq_true]
  intro i hi
  have key : ∀ v, cs[i]? = some v → v.oneCell' = true → cs[i].oneCell' = true := fun v hv h1 => by
    have e : cs[i]? = some cs[i] := Array.getElem?_eq_getElem hi
    rw [e] at hv; injection hv with hv; rw [hv]; exact h1
  rcases (show i < 16 ∨ i = 16 ∨ i = 17 ∨ i = 18 ∨ i = 19 ∨ i = 20 ∨ i = 21 ∨ i = 22 ∨ i = 39 ∨ (23 ≤ i ∧ i < 39) by omega) with h | rfl | rfl | rfl | rfl | rfl | rfl | rfl | rfl | h
  · exact key _ (h0 i h) rfl
  · exact key _ h2 rfl
  · exact key _ h3 rfl
  · exact key _ h4 rfl
  · exact key _ h5 rfl
  · exact key _ h6 rfl
  · exact key _ h7 rfl
  · exact key _ h8 rfl
  · exact key _ h9 rfl
  · have := h1 (i - 23) (by omega)
    rw [show 23 + (i - 23) = i by omega] at this
    exact key _ this rfl

/-- A unit's run of which the first k args are laid. -/
def begU (R : List Rg) (tv : Option Value) (xs : List Int) (k : Nat) : St := ⟨0, fun _ => 0, fun i => if i < k then nth xs i else 0, true, 2, 0, 0, [], [], unitEnv R tv⟩
theorem begU_var (R : List Rg) (tv : Option Value) (xs : List Int) (k : Nat) : (begU R tv xs k).var k (nth xs k) = begU R tv xs (k + 1) := by
  unfold St.var begU
  congr 1
  funext i
  unfold upd
  by_cases h : i = k
  · rw [if_pos h, if_pos (by omega), h]
  · rw [if_neg h]
    show (if i < k then _ else _) = _
    by_cases h2 : i < k
    · rw [if_pos h2, if_pos (by omega)]
    · rw [if_neg h2, if_neg (by omega)]
theorem begU_end (R : List Rg) (tv : Option Value) (xs : List Int) : begU R tv xs xs.length = stU R tv xs := by
  unfold begU stU
  congr 1
  funext i
  by_cases h : i < xs.length
  · rw [if_pos h]
  · rw [if_neg h, nth_past xs (by omega)]
theorem agg_b81 (R : List Rg) (tv : Value) (xs : List Int) : AggU (b81 tv) (begU R (some tv) xs 0) (.slice none 0 0) (.slice none 0 0) tv := by
  refine ⟨rfl, fun i hi => ?_, fun i hi => ?_, rfl, rfl, rfl, rfl, rfl, rfl, rfl, rfl⟩
  all_goals rcases (show i = 0 ∨ i = 1 ∨ i = 2 ∨ i = 3 ∨ i = 4 ∨ i = 5 ∨ i = 6 ∨ i = 7 ∨ i = 8 ∨ i = 9 ∨ i = 10 ∨ i = 11 ∨ i = 12 ∨ i = 13 ∨ i = 14 ∨ i = 15 by omega) with rfl | rfl | rfl | rfl | rfl | rfl | rfl | rfl | rfl | rfl | rfl | rfl | rfl | rfl | rfl | rfl <;> rfl

set_option maxRecDepth 100000 in
set_option maxHeartbeats 4000000 in
theorem machBegin_any (R : List Rg) (at_ : Option Addr) (ct : Nat) (xs : List Int) (ao : Option Addr) (cap : Nat) (w : World) (hH : HeldI w ao xs) (hl : xs.length ≤ 4) :
    Calls Tryd.prog 58 #[.slice ao xs.length cap, .slice at_ R.length ct] w fun e w' => ∃ cs, e = .returned (.agg cs) ∧ AggU cs (stU R (some (.slice at_ R.length ct)) xs) (.slice none 0 0) (.slice none 0 0) (.slice at_ R.length ct) ∧ Below w.heap.size w w' := by
  obtain ⟨n, hn⟩ : ∃ n, n = R.length := ⟨_, rfl⟩
  rw [← hn]
  have HN := hide hn
  have KB := hide codeBegin_any
  have HH := hide hH
  unfold b48 at KB
  clear hH hn
  go_enter Tryd.func58, Tryd.ntmps58
  go_wp2_with fail
  obtain ⟨w1, hw1⟩ : ∃ w1, w1 = w.alloc (.cells #[.int .i64 0, .int .i64 0, .int .i64 0, .int .i64 0, .int .i64 0, .int .i64 0, .int .i64 0, .int .i64 0, .int .i64 0, .int .i64 0, .int .i64 0, .int .i64 0, .int .i64 0, .int .i64 0, .int .i64 0, .int .i64 0, .int .i64 0, .bool false, .int .i64 0, .int .i64 0, .int .i64 0, .slice none 0 0, .slice none 0 0, .int .i64 0, .int .i64 0, .int .i64 0, .int .i64 0, .int .i64 0, .int .i64 0, .int .i64 0, .int .i64 0, .int .i64 0, .int .i64 0, .int .i64 0, .int .i64 0, .int .i64 0, .int .i64 0, .int .i64 0, .int .i64 0, .slice none 0 0] 97) := ⟨_, rfl⟩
  rw [← hw1]
  have HG1 : Hid (∃ cs, w1.heap[w.heap.size]? = some (.cells cs 97 (0, 0)) ∧ cs.size = 40) := by rw [hw1]; exact ⟨_, heap_alloc_new _ _, rfl⟩
  have hB1 : Below w.heap.size w w1 := by rw [hw1]; exact (Below.refl _ _).alloc (Nat.le_refl _) _
  have hz1 : w.heap.size < w1.heap.size := by rw [hw1]; simp
  clear hw1
  refine (unhide KB w1).mono ?_
  rintro e w2 ⟨rfl, hb2⟩
  have hz2 : w.heap.size < w2.heap.size := Nat.lt_of_lt_of_le hz1 hb2.size
  have HG2 : Hid (∃ cs, w2.heap[w.heap.size]? = some (.cells cs 97 (0, 0)) ∧ cs.size = 40) := by
    obtain ⟨cs, h1, h2⟩ := unhide HG1
    exact ⟨cs, (hb2.block w.heap.size hz1).trans h1, h2⟩
  have HB2 : Hid (Below w.heap.size w w2) := hB1.trans (hb2.mono (Nat.le_of_lt hz1))
  clear hb2 hB1 HG1 hz1
  go_wp2_with (refine wpList_store_row ?h1 97 ?h2 ?h3 ?h4 w2.heap.size ?h5 ?h6 ?h7 ?h8 ?h9 ?h10 ?h11 ?h12 ?h13 ?h14; case h4 => rfl)
  case h1 => rfl
  case h6 => rfl
  case h7 => rfl
  case h10 => exact heap_alloc_new _ _
  case h11 => exact Tryd.size97
  case h12 => rfl
  case h13 => kernel_rfl
  rw [World.setRow_alloc_new]
  obtain ⟨w3, hw3⟩ : ∃ w3, w3 = w2.alloc (.cells #[.int .i64 0, .int .i64 0, .int .i64 0, .int .i64 0, .int .i64 0, .int .i64 0, .int .i64 0, .int .i64 0, .int .i64 0, .int .i64 0, .int .i64 0, .int .i64 0, .int .i64 0, .int .i64 0, .int .i64 0, .int .i64 0, .int .i64 0, .bool true, .int .i64 2, .int .i64 0, .int .i64 0, .slice none 0 0, .slice none 0 0, .int .i64 0, .int .i64 0, .int .i64 0, .int .i64 0, .int .i64 0, .int .i64 0, .int .i64 0, .int .i64 0, .int .i64 0, .int .i64 0, .int .i64 0, .int .i64 0, .int .i64 0, .int .i64 0, .int .i64 0, .int .i64 0, .slice at_ n ct] 97) := ⟨_, rfl⟩
  rw [← hw3]
  have hg3 : w3.heap[w2.heap.size]? = some (.cells (b81 (.slice at_ n ct)) 97 (0, 0)) := by rw [hw3]; exact heap_alloc_new _ _
  have HS3 : Hid (StB w3 w2.heap.size (begU R (some (.slice at_ n ct)) xs 0) (.slice none 0 0) (.slice none 0 0)) := (agg_b81 R (.slice at_ n ct) xs).stb (R := R) rfl hg3
  have HG3 : Hid (∃ cs, w3.heap[w2.heap.size]? = some (.cells cs 97 (0, 0)) ∧ cs.size = 40) := ⟨_, hg3, rfl⟩
  have HR3 : Hid (∃ cs, w3.heap[w.heap.size]? = some (.cells cs 97 (0, 0)) ∧ cs.size = 40) := by
    obtain ⟨cs, h1, h2⟩ := unhide HG2
    exact ⟨cs, by rw [hw3]; exact (Below.heap_alloc _ _ _ hz2).trans h1, h2⟩
  have HB3 : Hid (Below w.heap.size w w3) := by rw [hw3]; exact (unhide HB2).alloc (Nat.le_of_lt hz2) _
  have hz3 : w2.heap.size < w3.heap.size := by rw [hw3]; simp
  clear hw3 hg3 HG2 HB2
  go_wp2_with fail
  go_loopw [6] (fun i wr => ∃ k : Nat, k ≤ xs.length ∧ i = .int .i64 k ∧ Hid (StB wr w2.heap.size (begU R (some (.slice at_ n ct)) xs k) (.slice none 0 0) (.slice none 0 0)) ∧ Hid (∃ cs, wr.heap[w2.heap.size]? = some (.cells cs 97 (0, 0)) ∧ cs.size = 40) ∧ Hid (Below w2.heap.size w3 wr)) (fun i _ => xs.length - (intOf i).toNat)
  case atStart => exact ⟨0, Nat.zero_le _, rfl, unhide HS3, unhide HG3, Below.refl _ _⟩
  case round =>
    obtain ⟨k, hk, rfl, HS, HG, HB⟩ := hrel
    by_cases hlt : k < xs.length
    · obtain ⟨b, off, rfl, hb, hc⟩ : ∃ b off, ao = some ⟨b, off, none⟩ ∧ b < w.heap.size ∧ ∀ i, i < xs.length → w.cell? ⟨b, off + i, none⟩ = some (.int .i64 (nth xs i)) := by
        rcases unhide HH with h | h
        · subst h; exact absurd hlt (by simp)
        · exact h
      have c : wr.cell? ⟨b, off + k, none⟩ = some (.int .i64 (nth xs k)) := ((unhide HB).cell (p := ⟨b, off + k, none⟩) (show b < w2.heap.size by omega)).trans (((unhide HB3).cell (p := ⟨b, off + k, none⟩) hb).trans (hc k hlt))
      have ck : wr.cell? ⟨w2.heap.size, 23 + k, none⟩ = some (.int .i64 ((begU R (some (.slice at_ n ct)) xs k).vars k)) := (unhide HS).2.1 k (show k < 16 by omega)
      have hf : ∀ o, wr.frozen? ⟨w2.heap.size, o, none⟩ = false := (unhide HS).2.2.2.2.2.2.2.2.2.1
      obtain ⟨y, hy⟩ : ∃ y, y = nth xs k := ⟨_, rfl⟩
      rw [← hy] at c
      have HY := hide hy
      have k16 : (k : Int) < 16 := by omega
      clear hc hy HS3 HG3
      go_wp2
      go_roundw
      case rel =>
        refine ⟨k + 1, by omega, by go_num, ?_, ?_, ((unhide HB).setCell (p := ⟨w2.heap.size, 23 + k, none⟩) (Nat.le_refl _) _)⟩
        · have := (unhide HS).set_var k (show k < 16 by omega) (nth xs k)
          rw [begU_var, ← unhide HY] at this
          exact this
        · obtain ⟨cs, h1, h2⟩ := unhide HG
          exact ⟨_, heap_setCell_same wr _ (23 + k) cs 97 _ h1, by rw [Array.size_setIfInBounds]; exact h2⟩
      case measure => simp [intOf]; omega
    · obtain rfl : k = xs.length := by omega
      obtain ⟨cs, hcs, hcn⟩ := unhide HG
      obtain ⟨zs, hzs, hzn⟩ := unhide HR3
      have hst := unhide HS
      rw [begU_end] at hst
      have HA := hide (AggU.of_stb (R := R) hst rfl hcs hcn)
      have HC := hide hcs
      have HZ := hide ((unhide HB).block w.heap.size hz2 |>.trans hzs)
      have HCN := hide hcn
      have HZN := hide hzn
      clear hcs hzs hcn hzn hst
      iterate 60 (first | (refine wpList_load_row rfl 97 _ rfl w2.heap.size rfl 97 cs (0, 0) _ (unhide HC) Tryd.underlying97 rfl (by rw [unhide HCN]; exact Tryd.size97) ?_; refine wpList_store_row rfl 97 _ _ rfl w.heap.size cs rfl rfl 97 zs (unhide HZ) (by rw [unhide HCN]; exact Tryd.size97) (by rw [unhide HZN, unhide HCN]) (unhide HA).plain ?_; clear HC) | go_values | go_skip | go_guarded | go_step | skip)
      go_wp2_with fail
      refine bodyPost_ret (results_cell_row rfl _ _ w.heap.size 97 cs (0, 0) _ rfl (setRow_heap wr w.heap.size zs _ 97 _ (unhide HZ)) Tryd.underlying97 rfl (by rw [unhide HCN]; exact Tryd.size97)) rfl ?_
      exact ⟨cs, rfl, unhide HA, below_setRow ((unhide HB3).trans ((unhide HB).mono (Nat.le_of_lt hz2))) (Nat.le_refl _) cs⟩
end Go.Proofs.YtoepcplbpochpaaDoor
