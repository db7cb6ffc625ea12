/-
  A run's mathematics once more: what a step makes of the end, the outputs and what was seen; numbers that are copied.
-/
import Derived.Test.YtoepcplbpochpaaDoorPart8
import Derived.Test.YtoepcplbpochpaaDoorPart21
import Derived.Test.YtoepcplbpochpaaDoorPart9
import Derived.Test.YtoepcplbpochpaaDoorPart13

namespace Go.Proofs.YtoepcplbpochpaaDoor
open Go.RowKit

theorem pre_kind (x : In4) (s : St) : (preSt x s).kind = s.kind := by
  unfold preSt
  repeat' split
  all_goals rfl
theorem step_kind (x : In4) (s : St) (h : 0 ≤ s.kind) : 0 ≤ (stepSt x s).kind := by
  have h' : 0 ≤ (preSt x s).kind := by rw [pre_kind]; exact h
  unfold stepSt doSt
  repeat' split
  all_goals first | exact h' | (show (0 : Int) ≤ 0; decide) | (unfold St.reckon; split; (show (0 : Int) ≤ 1; decide); exact h')
theorem step_outs9 (d a b : Int) (s : St) : (stepSt ⟨9, d, a, b⟩ s).outs = s.outs ++ [s.regs a.toNat] := rfl
theorem step_outs {op d a b : Int} {s : St} (h : op ≠ 9) : (stepSt ⟨op, d, a, b⟩ s).outs = s.outs := by
  have hp : (preSt ⟨op, d, a, b⟩ s).outs = s.outs := by
    unfold preSt
    repeat' split
    all_goals rfl
  rw [← hp]
  unfold stepSt doSt
  simp only
  repeat' split
  all_goals first | rfl | (exfalso; omega) | (exact reckon_outs _ _ _ _ _)
theorem step_stops11 (d a b : Int) (s : St) : (stepSt ⟨11, d, a, b⟩ s).stops = s.stops ++ [⟨a, s.tell 0, s.tell 1, s.tell 2, s.tell 3⟩] := rfl
theorem step_stops {op d a b : Int} {s : St} (h : op ≠ 11) : (stepSt ⟨op, d, a, b⟩ s).stops = s.stops := by
  have hp : (preSt ⟨op, d, a, b⟩ s).stops = s.stops := by
    unfold preSt
    simp only
    repeat' split
    all_goals first | rfl | (exfalso; omega)
  rw [← hp]
  unfold stepSt doSt
  simp only
  repeat' split
  all_goals first | rfl | (exact reckon_stops _ _ _ _ _)

theorem Tryd.size3 : (Tryd.prog.info? 3).map (·.size) = some 1 := by kernel_rfl
theorem mom_of_blocks {w : World} {M G H R V : Nat} {xs : List Int} {cg ch : Array Value} (hM : w.heap[M]? = some (.cells #[.int .i64 0, .slice (some ⟨G, 0, none⟩) R R, .slice none 0 0, .slice (some ⟨H, 0, none⟩) V V, .int .i64 (-1), .int .i64 0] 90 (0, 0)))
    (hG : w.heap[G]? = some (.cells cg 3 (0, 0))) (hH : w.heap[H]? = some (.cells ch 3 (0, 0))) (h1 : ∀ i, i < R → cg[i]? = some (.int .i64 (nth xs i))) (h2 : ∀ i, i < V → ch[i]? = some (.int .i64 (-1))) (n1 : M ≠ G) (n2 : M ≠ H) (n3 : G ≠ H) : MomB w M G H R V (st0 xs) :=
  ⟨(cell_of_row w M 0 _ 90 (0, 0) hM).trans rfl, (cell_of_row w M 1 _ 90 (0, 0) hM).trans rfl, (cell_of_row w M 3 _ 90 (0, 0) hM).trans rfl, (cell_of_row w M 4 _ 90 (0, 0) hM).trans rfl, (cell_of_row w M 5 _ 90 (0, 0) hM).trans rfl,
   fun i hi => (cell_of_row w G i _ 3 (0, 0) hG).trans (h1 i hi), fun i hi => (cell_of_row w H i _ 3 (0, 0) hH).trans (h2 i hi), fun o => by simp [World.frozen?, hM], fun o => by simp [World.frozen?, hG], fun o => by simp [World.frozen?, hH],
   (Array.getElem?_eq_some_iff.1 hG).1, (Array.getElem?_eq_some_iff.1 hH).1, n1, n2, n3, .inr rfl⟩
theorem held_ints {w : World} {ao : Option Addr} {xs : List Int} (h : HeldI w ao xs) : 0 < xs.length → ∃ ad, ao = some ad ∧ ∀ j v, (intCells xs)[j]? = some v → w.cell? (ad.add j) = some v := fun h0 => by
  rcases h with h | ⟨b, off, e, _, hc⟩
  · subst h; exact absurd h0 (by simp)
  · refine ⟨_, e, fun j v hv => ?_⟩
    have hj : j < xs.length := by
      rcases Nat.lt_or_ge j xs.length with h | h
      · exact h
      · rw [List.getElem?_eq_none (by rw [intCells_len]; exact h)] at hv; cases hv
    have hadd : (⟨b, off, none⟩ : Addr).add j = ⟨b, off + j, none⟩ := by unfold Addr.add; split <;> simp_all
    rw [hadd, hc j hj]
    unfold intCells at hv
    rw [List.getElem?_map, List.getElem?_eq_getElem hj] at hv
    unfold nth
    rw [List.getD_eq_getElem?_getD, List.getElem?_eq_getElem hj]
    exact hv
theorem copied_regs {xs : List Int} {cs : Array Value} {n : Nat} (hc : ∀ i, i < n → cs[i]? = some (.int .i64 0)) : ∀ i, i < n → (intCells xs ++ cs.toList.drop (intCells xs).length).toArray[i]? = some (.int .i64 (nth xs i)) := fun i hi => by
  rw [List.getElem?_toArray]
  rcases Nat.lt_or_ge i xs.length with h | h
  · rw [List.getElem?_append_left (by rw [intCells_len]; exact h)]
    unfold intCells nth
    rw [List.getElem?_map, List.getElem?_eq_getElem h, List.getD_eq_getElem?_getD, List.getElem?_eq_getElem h]
    rfl
  · rw [List.getElem?_append_right (by rw [intCells_len]; exact h), List.getElem?_drop, intCells_len, show xs.length + (i - xs.length) = i by omega, nth_past xs h, Array.getElem?_toList]
    exact hc i hi
end Go.Proofs.YtoepcplbpochpaaDoor

/-
  Plain mathematics: where what comes of an instruction lies in the unit's code, and what a straight piece of code does.
-/
namespace Go.Proofs.YtoepcplbpochpaaDoor
open Go.RowKit

theorem wTo_split (hs : Nat → Bool) (ha : Nat → Nat) (K : Nat) (s : Nat → Bool) (P : Nat) (L : List In4) (i : Nat) : ∀ d, ∃ T, wTo hs ha K s P L (i + d) = wTo hs ha K s P L i ++ T
  | 0 => ⟨[], (List.append_nil _).symm⟩
  | d + 1 => by
    obtain ⟨T, hT⟩ := wTo_split hs ha K s P L i d
    exact ⟨T ++ insC hs ha K (inAt L (i + d)), by show wTo hs ha K s P L (i + d) ++ _ = _; rw [hT, List.append_assoc]; rfl⟩
theorem inAt_left {A B : List In4} {i : Nat} (h : i < A.length) : inAt (A ++ B) i = inAt A i := by
  unfold inAt; rw [List.getD_eq_getElem?_getD, List.getD_eq_getElem?_getD, List.getElem?_append_left h]
theorem inAt_right (A B : List In4) (i : Nat) : inAt (A ++ B) (A.length + i) = inAt B i := by
  unfold inAt; rw [List.getD_eq_getElem?_getD, List.getD_eq_getElem?_getD, List.getElem?_append_right (by omega), show A.length + i - A.length = i by omega]
/-- What comes of the instruction i lies from its place on. -/
theorem code_at {P R K : Nat} {L : List In4} {i j : Nat} (hi : i < L.length) (hj : j < (insC (homS L R K) (homA L R K) K (inAt L i)).length) :
    inAt (cmpC P R K L) (cmpQ P R K L i + j) = tgt (cmpS P R K L) (inAt (insC (homS L R K) (homA L R K) K (inAt L i)) j) := by
  obtain ⟨T, hT⟩ := wTo_split (homS L R K) (homA L R K) K (liveB L 0) P L (i + 1) (L.length - (i + 1))
  rw [show i + 1 + (L.length - (i + 1)) = L.length by omega] at hT
  have e : wTo (homS L R K) (homA L R K) K (liveB L 0) P L L.length = wTo (homS L R K) (homA L R K) K (liveB L 0) P L i ++ (insC (homS L R K) (homA L R K) K (inAt L i) ++ T) := by
    rw [hT]; show (wTo (homS L R K) (homA L R K) K (liveB L 0) P L i ++ _) ++ T = _; rw [List.append_assoc]
  unfold cmpC codeB
  rw [inAt_map]
  · unfold cmpQ; rw [e, inAt_right, inAt_left hj]; rfl
  · unfold cmpQ; rw [e, List.length_append, List.length_append]; omega
/-- The args lie ahead of all. -/
theorem code_load {P R K : Nat} {L : List In4} {j : Nat} (hj : j < cmpQ P R K L 0) : inAt (cmpC P R K L) j = tgt (cmpS P R K L) (inAt (loadC (homS L R K) (homA L R K) (liveB L 0) P) j) := by
  obtain ⟨T, hT⟩ := wTo_split (homS L R K) (homA L R K) K (liveB L 0) P L 0 L.length
  rw [Nat.zero_add] at hT
  unfold cmpQ at hj
  unfold cmpC codeB
  rw [inAt_map]
  · rw [hT, inAt_left hj]; rfl
  · rw [hT, List.length_append]; omega

/-- A piece of code that goes straight on. -/
def exec : List In4 → St → St
  | [], t => t
  | y :: l, t => exec l (stepSt y t)
/-- An instruction that goes straight on. -/
def straight (y : In4) : Prop := y.op = 0 ∨ y.op = 1 ∨ y.op = 9 ∨ y.op = 11 ∨ y.op = 15 ∨ y.op = 16
theorem step_straight {y : In4} (h : straight y) (t : St) : (stepSt y t).on = t.on ∧ (stepSt y t).at_ = t.at_ + 1 := by
  obtain ⟨op, d, a, b⟩ := y
  unfold straight at h
  simp only at h
  rcases h with rfl | rfl | rfl | rfl | rfl | rfl <;> exact ⟨rfl, rfl⟩
/-- A piece of code whose instructions, but for the last, go straight on is done one by one. -/
theorem run_exec {C : List In4} : ∀ (l : List In4) (y : In4) (t : St), t.on = true → (∀ j, j < (l ++ [y]).length → inAt C (t.at_ + j) = inAt (l ++ [y]) j) → (∀ x ∈ l, straight x) → runSt C (l ++ [y]).length t = stepSt y (exec l t)
  | [], y, t, hon, hc, _ => by
    show runSt C 1 t = stepSt y t
    have := hc 0 (by simp)
    rw [Nat.add_zero] at this
    rw [run_on (by omega) hon, this]; rfl
  | x :: l, y, t, hon, hc, hs => by
    have h0 := hc 0 (by simp)
    rw [Nat.add_zero] at h0
    have h0' : inAt C t.at_ = x := h0
    obtain ⟨s1, s2⟩ := step_straight (hs x List.mem_cons_self) t
    rw [show (x :: l ++ [y]).length = (l ++ [y]).length + 1 by simp, run_on (by omega) hon, h0', Nat.add_sub_cancel]
    exact run_exec l y (stepSt x t) (s1.trans hon) (fun j hj => by
      have := hc (j + 1) (by simp at hj ⊢; omega)
      rw [s2, show t.at_ + 1 + j = t.at_ + (j + 1) by omega, this]; rfl) (fun z hz => hs z (List.mem_cons_of_mem _ hz))
theorem run_add (C : List In4) : ∀ (a b : Nat) (t : St), runSt C (a + b) t = runSt C b (runSt C a t)
  | 0, b, t => by rw [Nat.zero_add]; rfl
  | a + 1, b, t => by
    cases h : t.on with
    | false => rw [run_off C _ t h, run_off C _ t h, run_off C _ t h]
    | true => rw [run_on (by omega) h, run_on (m := a + 1) (by omega) h, show a + 1 + b - 1 = a + b by omega, show a + 1 - 1 = a by omega]; exact run_add C a b _
/-- More fuel: what has been shown stays, and what is to come is shown behind it. -/
theorem step_outs_pre (x : In4) (s : St) : ∃ o, (stepSt x s).outs = s.outs ++ o := by
  by_cases h : x.op = 9
  · obtain ⟨op, d, a, b⟩ := x
    simp only at h
    subst h
    exact ⟨_, step_outs9 d a b s⟩
  · obtain ⟨op, d, a, b⟩ := x
    exact ⟨[], by rw [step_outs h, List.append_nil]⟩
theorem step_stops_pre (x : In4) (s : St) : ∃ o, (stepSt x s).stops = s.stops ++ o := by
  by_cases h : x.op = 11
  · obtain ⟨op, d, a, b⟩ := x
    simp only at h
    subst h
    exact ⟨_, step_stops11 d a b s⟩
  · obtain ⟨op, d, a, b⟩ := x
    exact ⟨[], by rw [step_stops h, List.append_nil]⟩
theorem run_pre (C : List In4) : ∀ (m : Nat) (t : St), (∃ o, (runSt C m t).outs = t.outs ++ o) ∧ (∃ o, (runSt C m t).stops = t.stops ++ o)
  | 0, t => ⟨⟨[], (List.append_nil _).symm⟩, ⟨[], (List.append_nil _).symm⟩⟩
  | m + 1, t => by
    cases h : t.on with
    | false => rw [run_off C _ t h]; exact ⟨⟨[], (List.append_nil _).symm⟩, ⟨[], (List.append_nil _).symm⟩⟩
    | true =>
      rw [run_on (by omega) h, Nat.add_sub_cancel]
      obtain ⟨⟨o1, h1⟩, ⟨o2, h2⟩⟩ := run_pre C m (stepSt (inAt C t.at_) t)
      obtain ⟨o3, h3⟩ := step_outs_pre (inAt C t.at_) t
      obtain ⟨o4, h4⟩ := step_stops_pre (inAt C t.at_) t
      exact ⟨⟨o3 ++ o1, by rw [h1, h3, List.append_assoc]⟩, ⟨o4 ++ o2, by rw [h2, h4, List.append_assoc]⟩⟩
end Go.Proofs.YtoepcplbpochpaaDoor

/-
  Plain mathematics: how many Loads and Stores are in the unit's code.
-/
namespace Go.Proofs.YtoepcplbpochpaaDoor
open Go.RowKit

/-- How many instructions have this Op. -/
def cntO (o : Int) : List In4 → Nat
  | [] => 0
  | x :: l => (if x.op = o then 1 else 0) + cntO o l
theorem cntO_app (o : Int) : ∀ a b : List In4, cntO o (a ++ b) = cntO o a + cntO o b
  | [], b => by rw [List.nil_append]; show _ = 0 + _; omega
  | x :: a, b => by show (if x.op = o then 1 else 0) + cntO o (a ++ b) = (if x.op = o then 1 else 0) + cntO o a + _; rw [cntO_app o a b]; omega
theorem cntO_len (o : Int) : ∀ a : List In4, cntO o a ≤ a.length
  | [] => Nat.le_refl _
  | x :: a => by
    have := cntO_len o a
    show (if x.op = o then 1 else 0) + cntO o a ≤ a.length + 1
    split <;> omega
theorem cntO_map (o : Int) (st : Nat → Nat) : ∀ a : List In4, cntO o (a.map (tgt st)) = cntO o a
  | [] => rfl
  | x :: a => by
    show (if (tgt st x).op = o then 1 else 0) + cntO o (a.map (tgt st)) = (if x.op = o then 1 else 0) + cntO o a
    rw [tgt_op, cntO_map o st a]
theorem cntO_zero {o : Int} : ∀ {a : List In4}, cntO o a = 0 → ∀ i, i < a.length → (inAt a i).op ≠ o
  | [], _, i, h => absurd h (Nat.not_lt_zero _)
  | x :: a, h, 0, _ => fun e => by
    have h' : (if x.op = o then 1 else 0) + cntO o a = 0 := h
    have e' : x.op = o := e
    rw [if_pos e'] at h'; omega
  | x :: a, h, i + 1, hi => by
    have h' : (if x.op = o then 1 else 0) + cntO o a = 0 := h
    exact cntO_zero (a := a) (by omega) i (Nat.lt_of_succ_lt_succ hi)
theorem cntO_take (o : Int) : ∀ (a : List In4) (k : Nat), k < a.length → cntO o (a.take (k + 1)) = cntO o (a.take k) + if (inAt a k).op = o then 1 else 0
  | [], k, h => absurd h (Nat.not_lt_zero _)
  | x :: a, 0, _ => by
    show (if x.op = o then 1 else 0) + cntO o (a.take 0) = 0 + if x.op = o then 1 else 0
    rw [List.take_zero]; show _ + 0 = _; omega
  | x :: a, k + 1, h => by
    show (if x.op = o then 1 else 0) + cntO o (a.take (k + 1)) = (if x.op = o then 1 else 0) + cntO o (a.take k) + if (inAt a k).op = o then 1 else 0
    rw [cntO_take o a k (Nat.lt_of_succ_lt_succ h)]; omega
theorem cntO_take_le (o : Int) (a : List In4) (k : Nat) : cntO o (a.take k) ≤ cntO o a := by
  have := cntO_app o (a.take k) (a.drop k)
  rw [List.take_append_drop] at this
  omega
/-- Colours are few. -/
theorem cnt_few (L : List In4) (R : Nat) (hR : R ≤ 12) : cntTo (colB L R) R ≤ R := by
  have key : ∀ k, k ≤ R → cntTo (colB L R) k ≤ k := fun k => by
    induction k with
    | zero => exact fun _ => Nat.le_refl _
    | succ k ih =>
      intro hk
      have h1 := ih (by omega)
      have h2 := (colTo_le (hitB L R) R hR k (by omega)).1
      unfold cntTo
      split
      · unfold colB; omega
      · omega
  exact key R (Nat.le_refl _)
theorem no_slot {L : List In4} {R K : Nat} (h : cntTo (colB L R) R ≤ K) (r : Nat) : homS L R K r = false := by
  unfold homS keptB
  rw [if_neg (by omega)]
  by_cases hr : r < R
  · have := cnt_gt (colB L R) R r hr
    rw [show decide (K ≤ colB L R r) = false by rw [decide_eq_false_iff_not]; omega, Bool.and_false]
  · rw [show decide (r < R) = false by rw [decide_eq_false_iff_not]; exact hr, Bool.false_and]
theorem insC_free {hs : Nat → Bool} {ha : Nat → Nat} {K : Nat} (h : ∀ r, hs r = false) {x : In4} {o : Int} (ho : o = 15 ∨ o = 16) : cntO o (insC hs ha K x) = 0 := by
  have one : ∀ y : In4, y.op ≤ 11 → cntO o [y] = 0 := fun y hy => by show (if y.op = o then 1 else 0) + 0 = 0; rw [if_neg (by omega)]
  have f0 : ∀ r n, fetC hs ha K r n = [] := fun r n => by unfold fetC; rw [h r, if_neg (by decide)]
  have k0 : ∀ r, keepC hs ha K r = [] := fun r => by unfold keepC; rw [h r, if_neg (by decide)]
  unfold insC
  split
  · rw [k0, List.append_nil]; exact one _ (show (0 : Int) ≤ 11 by decide)
  split
  · unfold copyC; rw [h, if_neg (by decide), h, if_neg (by decide)]; exact one _ (show (1 : Int) ≤ 11 by decide)
  split
  · rename_i h3
    rw [f0, f0, k0, List.nil_append, List.nil_append, List.append_nil]; exact one _ (by show x.op ≤ 11; omega)
  split
  · rw [f0, List.nil_append]; exact one _ (show (8 : Int) ≤ 11 by decide)
  split
  · rename_i h3
    rw [f0, List.nil_append]; exact one _ (by show x.op ≤ 11; omega)
  split
  · rename_i h3
    exact one _ (by show x.op ≤ 11; omega)
  · rfl
theorem load_no_store (hs : Nat → Bool) (ha : Nat → Nat) (s : Nat → Bool) : ∀ k, cntO 16 (loadC hs ha s k) = 0
  | 0 => rfl
  | k + 1 => by
    show cntO 16 (loadC hs ha s k ++ if (s k && !hs k) = true then [⟨15, ha k, k, 0⟩] else []) = 0
    rw [cntO_app, load_no_store hs ha s k]
    split <;> rfl
theorem wTo_free {hs : Nat → Bool} {ha : Nat → Nat} {K : Nat} (h : ∀ r, hs r = false) (s : Nat → Bool) (P : Nat) (L : List In4) : ∀ i, cntO 16 (wTo hs ha K s P L i) = 0 ∧ cntO 15 (wTo hs ha K s P L i) ≤ P
  | 0 => ⟨load_no_store hs ha s P, Nat.le_trans (cntO_len 15 (loadC hs ha s P)) (loadC_len hs ha s P)⟩
  | i + 1 => by
    obtain ⟨h1, h2⟩ := wTo_free (ha := ha) (K := K) h s P L i
    show cntO 16 (wTo hs ha K s P L i ++ insC hs ha K (inAt L i)) = 0 ∧ cntO 15 (wTo hs ha K s P L i ++ insC hs ha K (inAt L i)) ≤ P
    rw [cntO_app, cntO_app, insC_free h (.inl rfl), insC_free h (.inr rfl)]
    exact ⟨by omega, by omega⟩
/-- With registers enough there is no Store, and no Load but of args. -/
theorem cmp_free {P R K : Nat} {L : List In4} (h : cntTo (colB L R) R ≤ K) : cntO 16 (cmpC P R K L) = 0 ∧ cntO 15 (cmpC P R K L) ≤ P := by
  unfold cmpC codeB
  rw [cntO_map, cntO_map]
  exact wTo_free (no_slot h) _ _ _ _
end Go.Proofs.YtoepcplbpochpaaDoor

/-
  Plain mathematics: each field that names a register without a home among the machine's registers is one Load or one Store.
-/
namespace Go.Proofs.YtoepcplbpochpaaDoor
open Go.RowKit

/-- A sum over the first numbers. -/
def sumN (f : Nat → Nat) : Nat → Nat
  | 0 => 0
  | n + 1 => sumN f n + f n
theorem sumN_add (f g : Nat → Nat) : ∀ n, sumN (fun i => f i + g i) n = sumN f n + sumN g n
  | 0 => rfl
  | n + 1 => by
    show sumN (fun i => f i + g i) n + (f n + g n) = sumN f n + f n + (sumN g n + g n)
    rw [sumN_add f g n]; omega
theorem sumN_congr {f g : Nat → Nat} : ∀ {n}, (∀ i, i < n → f i = g i) → sumN f n = sumN g n
  | 0, _ => rfl
  | n + 1, h => by
    show sumN f n + f n = sumN g n + g n
    rw [sumN_congr (fun i hi => h i (by omega)), h n (by omega)]
theorem sumN_zero : ∀ n, sumN (fun _ => 0) n = 0
  | 0 => rfl
  | n + 1 => by show sumN _ n + 0 = 0; rw [sumN_zero n]
theorem sumN_swap (f : Nat → Nat → Nat) (m : Nat) : ∀ n, sumN (fun i => sumN (f i) m) n = sumN (fun r => sumN (fun i => f i r) n) m
  | 0 => (sumN_zero m).symm
  | n + 1 => by
    show sumN (fun i => sumN (f i) m) n + sumN (f n) m = sumN (fun r => sumN (fun i => f i r) n + f n r) m
    rw [sumN_swap f m n, sumN_add]
/-- One of them is one, the others nothing. -/
theorem sumN_one (p : Nat → Bool) {z : Int} : ∀ {n : Nat}, 0 ≤ z → z < n → sumN (fun r => if p r = true ∧ z = (r : Int) then 1 else 0) n = if p z.toNat = true then 1 else 0
  | 0, h0, h => by omega
  | n + 1, h0, h => by
    show sumN _ n + (if p n = true ∧ z = (n : Int) then 1 else 0) = _
    by_cases e : z = (n : Int)
    · have hz : sumN (fun r => if p r = true ∧ z = (r : Int) then 1 else 0) n = 0 := (sumN_congr (g := fun _ => 0) (fun i hi => if_neg (fun h => by omega))).trans (sumN_zero n)
      rw [hz, show z.toNat = n by omega, Nat.zero_add]
      by_cases hp : p n = true
      · rw [if_pos ⟨hp, e⟩, if_pos hp]
      · rw [if_neg (fun h => hp h.1), if_neg hp]
    · rw [sumN_one p h0 (by omega), if_neg (c := p n = true ∧ z = (n : Int)) (fun h => e h.2)]; rfl

/-- How often a register is read and written by an instruction. -/
def useC (x : In4) (r : Int) : Nat := rdC x r + if wrB x r = true then 1 else 0
/-- What it costs, where the homes of some are slots. -/
def costC (hs : Nat → Bool) (R : Nat) (x : In4) : Nat := sumN (fun r => if hs r = true then useC x r else 0) R
def oneC (c : Prop) [Decidable c] (b : Bool) : Nat := if c ∧ b = true then 1 else 0
theorem wrB_iff {x : In4} {r : Int} : wrB x r = true ↔ (x.op = 0 ∨ x.op = 1 ∨ (2 ≤ x.op ∧ x.op ≤ 6)) ∧ x.d = r := by
  unfold wrB isWr isRk
  rw [Bool.and_eq_true, Bool.or_eq_true, Bool.or_eq_true, Bool.and_eq_true, decide_eq_true_iff, decide_eq_true_iff, beq_iff_eq, beq_iff_eq, beq_iff_eq]
  exact ⟨fun h => ⟨by omega, h.2⟩, fun h => ⟨by omega, h.2⟩⟩
theorem sum_oneC (hs : Nat → Bool) (R : Nat) {z : Int} (c : Prop) [Decidable c] (h : c → 0 ≤ z ∧ z < R) : sumN (fun r => if hs r = true then (if c ∧ z = (r : Int) then 1 else 0) else 0) R = oneC c (hs z.toNat) := by
  unfold oneC
  by_cases hc : c
  · rw [← show (if hs z.toNat = true then 1 else 0) = (if c ∧ hs z.toNat = true then 1 else 0) by
      by_cases e : hs z.toNat = true
      · rw [if_pos e, if_pos ⟨hc, e⟩]
      · rw [if_neg e, if_neg (fun h => e h.2)], ← sumN_one hs (h hc).1 (h hc).2]
    refine sumN_congr (fun i _ => ?_)
    by_cases e : hs i = true
    · rw [if_pos e]
      by_cases f : z = (i : Int)
      · rw [if_pos ⟨hc, f⟩, if_pos ⟨e, f⟩]
      · rw [if_neg (fun h => f h.2), if_neg (fun h => f h.2)]
    · rw [if_neg e, if_neg (fun h => e h.1)]
  · rw [if_neg (c := c ∧ hs z.toNat = true) (fun h => hc h.1)]
    refine (sumN_congr (g := fun _ => 0) (fun i _ => ?_)).trans (sumN_zero R)
    show (if hs i = true then (if c ∧ z = (i : Int) then 1 else 0) else 0) = 0
    rw [if_neg (c := c ∧ z = (i : Int)) (fun h => hc h.1)]
    split <;> rfl
theorem cost_eq (hs : Nat → Bool) {R n V : Nat} {x : In4} (hx : Right R n V x) : costC hs R x = oneC (x.op = 1 ∨ (2 ≤ x.op ∧ x.op ≤ 6) ∨ x.op = 8 ∨ x.op = 9 ∨ x.op = 10) (hs x.a.toNat) + oneC (2 ≤ x.op ∧ x.op ≤ 6) (hs x.b.toNat) + oneC (x.op = 0 ∨ x.op = 1 ∨ (2 ≤ x.op ∧ x.op ≤ 6)) (hs x.d.toNat) := by
  obtain ⟨_, _, hd, ha, hb, _⟩ := hx
  rw [← sum_oneC hs R (z := x.a) _ (fun h => ha (by omega)), ← sum_oneC hs R (z := x.b) _ hb, ← sum_oneC hs R (z := x.d) _ hd, ← sumN_add, ← sumN_add]
  unfold costC
  refine sumN_congr (fun i _ => ?_)
  by_cases e : hs i = true
  · rw [if_pos e, if_pos e, if_pos e, if_pos e]
    unfold useC rdC
    have : (if wrB x i = true then 1 else 0) = (if (x.op = 0 ∨ x.op = 1 ∨ (2 ≤ x.op ∧ x.op ≤ 6)) ∧ x.d = (i : Int) then 1 else 0) := by
      by_cases f : wrB x i = true
      · rw [if_pos f, if_pos (wrB_iff.1 f)]
      · rw [if_neg f, if_neg (fun h => f (wrB_iff.2 h))]
    rw [this]
  · rw [if_neg e, if_neg e, if_neg e, if_neg e]
def lsC (C : List In4) : Nat := cntO 15 C + cntO 16 C
theorem lsC_app (a b : List In4) : lsC (a ++ b) = lsC a + lsC b := by unfold lsC; rw [cntO_app, cntO_app]; omega
theorem lsC_one (y : In4) : lsC [y] ≤ 1 := by
  show (if y.op = 15 then 1 else 0) + 0 + ((if y.op = 16 then 1 else 0) + 0) ≤ 1
  split <;> split <;> omega
theorem lsC_none {o d a b : Int} (h : o ≤ 11) : lsC [⟨o, d, a, b⟩] = 0 := by
  show (if o = 15 then 1 else 0) + 0 + ((if o = 16 then 1 else 0) + 0) = 0
  rw [if_neg (by omega), if_neg (by omega)]
theorem ls_fet {c : Prop} [Decidable c] (hc : c) (hs : Nat → Bool) (ha : Nat → Nat) (K r n : Nat) : lsC (fetC hs ha K r n) ≤ oneC c (hs r) := by
  unfold fetC oneC
  by_cases h : hs r = true
  · rw [if_pos h, if_pos ⟨hc, h⟩]; exact lsC_one _
  · rw [if_neg h]; exact Nat.zero_le _
theorem ls_keep {c : Prop} [Decidable c] (hc : c) (hs : Nat → Bool) (ha : Nat → Nat) (K r : Nat) : lsC (keepC hs ha K r) ≤ oneC c (hs r) := by
  unfold keepC oneC
  by_cases h : hs r = true
  · rw [if_pos h, if_pos ⟨hc, h⟩]; exact lsC_one _
  · rw [if_neg h]; exact Nat.zero_le _
theorem ls_copy {c e : Prop} [Decidable c] [Decidable e] (hc : c) (he : e) (hs : Nat → Bool) (ha : Nat → Nat) (K d a : Nat) : lsC (copyC hs ha K d a) ≤ oneC c (hs a) + oneC e (hs d) := by
  unfold copyC
  by_cases h : hs d = true
  · rw [if_pos h, lsC_app]
    have h1 := ls_fet hc hs ha K a 0
    have h2 := lsC_one ⟨16, ha d, fetR hs ha K a 0, 0⟩
    have h3 : oneC e (hs d) = 1 := if_pos ⟨he, h⟩
    omega
  · rw [if_neg h]
    by_cases h' : hs a = true
    · rw [if_pos h']
      have h2 := lsC_one ⟨15, ha d, ha a, 0⟩
      have h3 : oneC c (hs a) = 1 := if_pos ⟨hc, h'⟩
      omega
    · rw [if_neg h', lsC_none (show (1 : Int) ≤ 11 by decide)]; exact Nat.zero_le _
theorem ls_ins (hs : Nat → Bool) (ha : Nat → Nat) (K : Nat) {R n V : Nat} {x : In4} (hx : Right R n V x) : lsC (insC hs ha K x) ≤ costC hs R x := by
  rw [cost_eq hs hx]
  unfold insC
  by_cases h0 : x.op = 0
  · rw [if_pos h0, lsC_app, lsC_none (show (0 : Int) ≤ 11 by decide)]
    have := ls_keep (c := x.op = 0 ∨ x.op = 1 ∨ (2 ≤ x.op ∧ x.op ≤ 6)) (.inl h0) hs ha K x.d.toNat
    omega
  rw [if_neg h0]
  by_cases h1 : x.op = 1
  · rw [if_pos h1]
    have := ls_copy (c := x.op = 1 ∨ (2 ≤ x.op ∧ x.op ≤ 6) ∨ x.op = 8 ∨ x.op = 9 ∨ x.op = 10) (e := x.op = 0 ∨ x.op = 1 ∨ (2 ≤ x.op ∧ x.op ≤ 6)) (.inl h1) (.inr (.inl h1)) hs ha K x.d.toNat x.a.toNat
    omega
  rw [if_neg h1]
  by_cases h2 : 2 ≤ x.op ∧ x.op ≤ 6
  · rw [if_pos h2, lsC_app, lsC_app, lsC_app, lsC_none (show x.op ≤ 11 by omega)]
    have g1 := ls_fet (c := x.op = 1 ∨ (2 ≤ x.op ∧ x.op ≤ 6) ∨ x.op = 8 ∨ x.op = 9 ∨ x.op = 10) (.inr (.inl h2)) hs ha K x.a.toNat 0
    have g2 := ls_fet (c := 2 ≤ x.op ∧ x.op ≤ 6) h2 hs ha K x.b.toNat 1
    have g3 := ls_keep (c := x.op = 0 ∨ x.op = 1 ∨ (2 ≤ x.op ∧ x.op ≤ 6)) (.inr (.inr h2)) hs ha K x.d.toNat
    omega
  rw [if_neg h2]
  by_cases h8 : x.op = 8
  · rw [if_pos h8, lsC_app, lsC_none (show (8 : Int) ≤ 11 by decide)]
    have g1 := ls_fet (c := x.op = 1 ∨ (2 ≤ x.op ∧ x.op ≤ 6) ∨ x.op = 8 ∨ x.op = 9 ∨ x.op = 10) (by omega) hs ha K x.a.toNat 0
    omega
  rw [if_neg h8]
  by_cases h9 : x.op = 9 ∨ x.op = 10
  · rw [if_pos h9, lsC_app, lsC_none (show x.op ≤ 11 by omega)]
    have g1 := ls_fet (c := x.op = 1 ∨ (2 ≤ x.op ∧ x.op ≤ 6) ∨ x.op = 8 ∨ x.op = 9 ∨ x.op = 10) (by omega) hs ha K x.a.toNat 0
    omega
  rw [if_neg h9]
  by_cases h7 : x.op = 7 ∨ x.op = 11
  · rw [if_pos h7, lsC_none (show x.op ≤ 11 by omega)]; exact Nat.zero_le _
  · rw [if_neg h7]; exact Nat.zero_le _
theorem ls_load (hs : Nat → Bool) (ha : Nat → Nat) (s : Nat → Bool) (P : Nat) : lsC (loadC hs ha s P) ≤ P := by
  unfold lsC
  rw [load_no_store]
  exact Nat.le_trans (cntO_len 15 (loadC hs ha s P)) (loadC_len hs ha s P)
theorem ls_wTo (hs : Nat → Bool) (ha : Nat → Nat) (K : Nat) (s : Nat → Bool) {P R V : Nat} {L : List In4} (hp : RightP P R V L) : ∀ i, i ≤ L.length → lsC (wTo hs ha K s P L i) ≤ P + sumN (fun i => costC hs R (inAt L i)) i
  | 0, _ => ls_load hs ha s P
  | i + 1, hi => by
    have h1 := ls_wTo hs ha K s hp i (by omega)
    have h2 := ls_ins hs ha K (hp.ins i (by omega))
    show lsC (wTo hs ha K s P L i ++ insC hs ha K (inAt L i)) ≤ P + (sumN (fun i => costC hs R (inAt L i)) i + costC hs R (inAt L i))
    rw [lsC_app]; omega
theorem sumN_le {f : Nat → Nat} {b : Nat} : ∀ {n}, (∀ i, i < n → f i ≤ b) → sumN f n ≤ n * b
  | 0, _ => Nat.zero_le _
  | n + 1, h => by
    have h1 := sumN_le (f := f) (b := b) (n := n) (fun i hi => h i (by omega))
    have h2 := h n (by omega)
    show sumN f n + f n ≤ (n + 1) * b
    rw [Nat.add_mul]; omega
theorem use_le (x : In4) (r : Int) : useC x r ≤ 3 := by
  have : ∀ (c : Prop) [Decidable c], (if c then 1 else 0) ≤ 1 := fun c _ => by split <;> omega
  unfold useC rdC
  have h1 := this ((x.op = 1 ∨ (2 ≤ x.op ∧ x.op ≤ 6) ∨ x.op = 8 ∨ x.op = 9 ∨ x.op = 10) ∧ x.a = r)
  have h2 := this ((2 ≤ x.op ∧ x.op ≤ 6) ∧ x.b = r)
  have h3 := this (wrB x r = true)
  omega
/-- What the document counts: of each register whose colour is not below K - 2 how often it is read and written. -/
def hsum (L : List In4) (R K : Nat) : Nat → Nat := sumN (fun r => if colB L R r < K - 2 then 0 else sumN (fun i => useC (inAt L i) r) L.length)
theorem hsum_le (L : List In4) (R K r : Nat) : hsum L R K r ≤ r * (L.length * 3) := sumN_le (fun i _ => by
  split
  · exact Nat.zero_le _
  · exact sumN_le (fun j _ => use_le _ _))
theorem hsum_succ (L : List In4) (R K r : Nat) : hsum L R K (r + 1) = hsum L R K r + if colB L R r < K - 2 then 0 else sumN (fun i => useC (inAt L i) r) L.length := rfl
theorem cmp_few {P R V K : Nat} {L : List In4} (hp : RightP P R V L) (h : K < cntTo (colB L R) R) : cntO 15 (cmpC P R K L) + cntO 16 (cmpC P R K L) ≤ P + hsum L R K R := by
  unfold cmpC codeB
  rw [cntO_map, cntO_map]
  refine Nat.le_trans (ls_wTo _ _ K _ hp L.length (Nat.le_refl _)) (Nat.add_le_add_left ?_ P)
  unfold costC hsum
  rw [sumN_swap (fun i r => if homS L R K r = true then useC (inAt L i) r else 0) R L.length]
  refine Nat.le_of_eq (sumN_congr (fun r hr => ?_))
  have e : homS L R K r = decide (K - 2 ≤ colB L R r) := by
    unfold homS keptB; rw [if_pos h, decide_eq_true hr, Bool.true_and]
  rw [e]
  by_cases c : colB L R r < K - 2
  · rw [if_pos c, decide_eq_false (by omega)]
    exact sumN_zero _
  · rw [if_neg c, decide_eq_true (by omega)]
    rfl
end Go.Proofs.YtoepcplbpochpaaDoor

/-
  Are there so few Loads and Stores as there may be: lodgeref.Allowed, of the code that Compile makes.
-/
namespace Go.Proofs.YtoepcplbpochpaaDoor
open Go.RowKit

/-- The program, the colours and the unit's code, in memory. -/
structure AB (w wr : World) (P R V : Nat) (L : List In4) (ao : Option Addr) (cap : Nat) (so uo : Option Addr) (C : List In4) : Prop where
  pb : PB w wr P R V L ao cap
  cols : HeldI wr so (colL (hitB L R) R)
  unit : HeldIns wr uo C
theorem AB.next {w wr w' : World} {P R V : Nat} {L : List In4} {ao : Option Addr} {cap : Nat} {so uo : Option Addr} {C : List In4} (h : AB w wr P R V L ao cap so uo C) (hb : Below wr.heap.size wr w') : AB w w' P R V L ao cap so uo C :=
  ⟨h.pb.next hb, h.cols.below hb, h.unit.below hb⟩
theorem AB.col {w wr : World} {P R V : Nat} {L : List In4} {ao : Option Addr} {cap cb co : Nat} {uo : Option Addr} {C : List In4} (h : AB w wr P R V L ao cap (some ⟨cb, co, none⟩) uo C) {r : Nat} (hr : r < R) : wr.cell? ⟨cb, co + r, none⟩ = some (.int .i64 (colB L R r : Int)) := by
  rcases h.cols with e | ⟨b', off', e, _, hc⟩
  · have := congrArg List.length e
    rw [colL_len] at this
    have h0 : R = 0 := this
    omega
  · injection e with e
    injection e with e1 e2
    subst e1; subst e2
    rw [hc r (by rw [colL_len]; exact hr)]
    unfold nth
    rw [colL_at _ _ _ hr]
    rfl
theorem cnt_low (L : List In4) (R : Nat) (hR : R ≤ 12) : ∀ k, k ≤ R → cntTo (colB L R) k ≤ k
  | 0, _ => Nat.le_refl _
  | k + 1, hk => by
    have h1 := cnt_low L R hR k (by omega)
    have h2 := (colTo_le (hitB L R) R hR k (by omega)).1
    unfold cntTo
    split
    · unfold colB; omega
    · omega

set_option maxRecDepth 100000 in
set_option maxHeartbeats 8000000 in
theorem allowed_any (P R V K : Nat) (L : List In4) (ao uo : Option Addr) (cap uc : Nat) (hp : RightP P R V L) (hK : 2 ≤ K) (hK' : K ≤ 16) (w : World) (hH : HeldIns w ao L) (hU : HeldIns w uo (cmpC P R K L)) (hUl : (cmpC P R K L).length ≤ 1000) :
    Calls Tryd.prog 26 #[.agg #[.int .i64 P, .int .i64 R, .int .i64 V, .slice ao L.length cap], .int .i64 K, .slice uo (cmpC P R K L).length uc] w fun e w' => e = .returned (.bool true) ∧ Below w.heap.size w w' := by
  have hn40 := hp.n40
  have hR := hp.r12
  have hR1 := hp.r1
  have hP4 := hp.p4
  obtain ⟨bb, off, rfl, hbb, hI⟩ := held_at hH hp.n1
  obtain ⟨w1, hw1, HB1, hz1⟩ := pb_start w P R V L (some ⟨bb, off, none⟩) cap hH
  have HW := hide hw1
  have HU1 : Hid (HeldIns w1 uo (cmpC P R K L)) := hU.below (by rw [hw1]; exact below_alloc _ _)
  obtain ⟨C, hC⟩ : ∃ C, C = cmpC P R K L := ⟨_, rfl⟩
  have HCE : Hid (∀ n15 n16, n15 = cntO 15 C → n16 = cntO 16 C → (cntTo (colB L R) R ≤ K → n16 = 0 ∧ n15 ≤ P) ∧ (K < cntTo (colB L R) R → n15 + n16 ≤ P + hsum L R K R)) := fun n15 n16 h1 h2 => by
    rw [h1, h2, hC]; exact ⟨fun h => cmp_free h, fun h => cmp_few hp h⟩
  rw [← hC] at HU1 hUl ⊢
  have KC := hide (refColours_any P V R L (some ⟨bb, off, none⟩) cap hp w1 (unhide HB1).code)
  have KR := hide refReads_any
  have KW := hide refWrites_any
  have HOP : Hid (∀ k, k < L.length → 0 ≤ (inAt L k).op ∧ (inAt L k).op ≤ 14) := fun k hk => ⟨(hp.ins k hk).1, hp.low k hk⟩
  have HLO := hide (cnt_low L R (by omega))
  have HCL : Hid (∀ r, r < R → colB L R r ≤ r) := fun r hr => (colTo_le (hitB L R) R (by omega) r hr).1
  have wK : IntKind.i64.wrap ((K : Int) - 2) = (K : Int) - 2 := by rw [IntKind.wrap_i64]; omega
  clear hw1 hp hH hI hU hC
  go_enter Tryd.func26, Tryd.ntmps26
  go_upto_region 1 with fail
  rw [← unhide HW]
  have p0 := (unhide HB1).p.c0
  have p1 := (unhide HB1).p.c1
  have p2 := (unhide HB1).p.c2
  have p3 := (unhide HB1).p.c3
  go_wp2_with fail
  refine (unhide KC).mono ?_
  rintro _ w2 ⟨so, sc, rfl, hco, hb2⟩
  obtain ⟨cb, co, rfl⟩ : ∃ cb co, so = some ⟨cb, co, none⟩ := by
    rcases hco with e | ⟨b', off', e, _⟩
    · have := congrArg List.length e
      rw [colL_len] at this
      have h0 : R = 0 := this
      omega
    · exact ⟨_, _, e⟩
  have HA2 : Hid (AB w w2 P R V L (some ⟨bb, off, none⟩) cap (some ⟨cb, co, none⟩) uo C) := ⟨(unhide HB1).next hb2, hco, (unhide HU1).below hb2⟩
  clear p0 p1 p2 p3 hb2 hco HB1 HU1 KC
  go_wp2_with fail
  go_loopw [8, 9, 10] (fun m' h' i' wr => ∃ r : Nat, r ≤ R ∧ m' = .int .i64 ((cntTo (colB L R) r : Nat) : Int) ∧ h' = .int .i64 ((hsum L R K r : Nat) : Int) ∧ i' = .int .i64 r ∧ Hid (AB w wr P R V L (some ⟨bb, off, none⟩) cap (some ⟨cb, co, none⟩) uo C)) (fun _ _ i' _ => R - (intOf i').toNat)
  case atStart => exact ⟨0, Nat.zero_le _, rfl, rfl, rfl, unhide HA2⟩
  case round =>
    clear HA2
    obtain ⟨r, hr, rfl, rfl, rfl, HA⟩ := hrel
    have p1 := (unhide HA).pb.p.c1
    by_cases hlt : r < R
    · have hri : (r : Int) < (R : Int) := by omega
      have hr0 : (0 : Int) ≤ (r : Int) := by omega
      have cc := (unhide HA).col hlt
      obtain ⟨cr, hcr⟩ : ∃ cr, cr = colB L R r := ⟨_, rfl⟩
      rw [← hcr] at cc
      have hc12 : cr < 12 := by have := unhide HCL r hlt; omega
      have hm12 := unhide HLO r hr
      obtain ⟨m, hm⟩ : ∃ m, m = cntTo (colB L R) r := ⟨_, rfl⟩
      rw [← hm] at hm12 ⊢
      have HCR := hide hcr
      have HM := hide hm
      clear hcr hm
      have wC : IntKind.i64.wrap ((cr : Int) + 1) = (cr : Int) + 1 := by rw [IntKind.wrap_i64]; omega
      have HMS : Hid (cntTo (colB L R) (r + 1) = if m ≤ cr then cr + 1 else m) := by
        show (if cntTo (colB L R) r ≤ colB L R r then colB L R r + 1 else cntTo (colB L R) r) = _
        rw [← unhide HCR, ← unhide HM]
      by_cases cm : m ≤ cr
      · have cm1 : (m : Int) < (cr : Int) + 1 := by omega
        have HM1 : Hid (Value.int .i64 ((cr : Int) + 1) = .int .i64 ((cntTo (colB L R) (r + 1) : Nat) : Int)) := by unfold Hid; rw [unhide HMS, if_pos cm]; rfl
        clear cm HMS
        by_cases ck : colB L R r < K - 2
        · have ck1 : (cr : Int) < (K : Int) - 2 := by have := unhide HCR; omega
          have HCK := hide ck
          clear ck
          go_wp2_with fail
          go_roundw
          case rel => exact ⟨r + 1, by omega, unhide HM1, by rw [hsum_succ, if_pos (unhide HCK), Nat.add_zero], by go_num, unhide HA⟩
          case measure => simp [intOf]; omega
        · have ck1 : ¬ (cr : Int) < (K : Int) - 2 := by have := unhide HCR; omega
          have HCK := hide ck
          clear ck
          obtain ⟨wo, rfl⟩ : ∃ wo, wo = wr := ⟨_, rfl⟩
          go_wp2_with fail
          go_loopw [9, 11] (fun h' i' wx => ∃ k : Nat, k ≤ L.length ∧ h' = .int .i64 ((hsum L R K r + sumN (fun i => useC (inAt L i) r) k : Nat) : Int) ∧ i' = .int .i64 k ∧ Hid (AB w wx P R V L (some ⟨bb, off, none⟩) cap (some ⟨cb, co, none⟩) uo C)) (fun _ i' _ => L.length - (intOf i').toNat)
          case atStart => exact ⟨0, Nat.zero_le _, rfl, rfl, unhide HA⟩
          case round =>
            clear HA
            obtain ⟨k, hk, rfl, rfl, HA⟩ := hrel
            have p3 := (unhide HA).pb.p.c3
            obtain ⟨S, hS⟩ : ∃ S, S = hsum L R K r + sumN (fun i => useC (inAt L i) r) k := ⟨_, rfl⟩
            have hSle : S ≤ 1440 := by
              have h1 := hsum_le L R K r
              have h2 : sumN (fun i => useC (inAt L i) r) k ≤ k * 3 := sumN_le (fun j _ => use_le _ _)
              have h3 : r * (L.length * 3) ≤ 11 * 120 := Nat.mul_le_mul (by omega) (by omega)
              omega
            rw [← hS]
            have HS := hide hS
            clear hS
            by_cases hkl : k < L.length
            · have hki : (k : Int) < (L.length : Int) := by omega
              have hk0 : (0 : Int) ≤ (k : Int) := by omega
              have ho := unhide HOP k hkl
              obtain ⟨q0, q1, q2, q3⟩ := (unhide HA).pb.at4 hkl
              obtain ⟨x, hx⟩ : ∃ x, x = inAt L k := ⟨_, rfl⟩
              rw [← hx] at q0 q1 q2 q3 ho
              obtain ⟨op, d, xa, xb⟩ := x
              simp only at q0 q1 q2 q3 ho
              have HO1 := hide ho
              have HX := hide hx
              clear ho hx
              have hrd : rdC ⟨op, d, xa, xb⟩ r ≤ 3 := Nat.le_trans (Nat.le_add_right _ _) (use_le ⟨op, d, xa, xb⟩ r)
              obtain ⟨tn, htn⟩ : ∃ t, t = rdC ⟨op, d, xa, xb⟩ r := ⟨_, rfl⟩
              obtain ⟨tw, htw⟩ : ∃ t, t = wrB ⟨op, d, xa, xb⟩ r := ⟨_, rfl⟩
              have KR1 := hide (unhide KR op d xa xb r (unhide HO1) wr)
              rw [← htn] at KR1 hrd
              have HTN := hide htn
              have HTW := hide htw
              clear htn htw
              go_wp2_with fail
              refine (unhide KR1).mono ?_
              rintro _ w5 ⟨rfl, hb5⟩
              have HA5 := hide ((unhide HA).next hb5)
              clear q0 q1 q2 q3 p3 hb5 KR1
              have p3 := (unhide HA5).pb.p.c3
              obtain ⟨q0, q1, q2, q3⟩ := (unhide HA5).pb.at4 hkl
              rw [← unhide HX] at q0 q1 q2 q3
              simp only at q0 q1 q2 q3
              have KW1 := hide (unhide KW op d xa xb r (unhide HO1) w5)
              rw [← unhide HTW] at KW1
              have wS : IntKind.i64.wrap ((S : Int) + (tn : Int)) = (S : Int) + (tn : Int) := by rw [IntKind.wrap_i64]; omega
              go_wp2_with fail
              refine (unhide KW1).mono ?_
              rintro _ w6 ⟨rfl, hb6⟩
              have HA6 := hide ((unhide HA5).next hb6)
              clear q0 q1 q2 q3 p3 hb6 KW1
              have HU : Hid (sumN (fun i => useC (inAt L i) r) (k + 1) = sumN (fun i => useC (inAt L i) r) k + (tn + if tw = true then 1 else 0)) := by
                show sumN (fun i => useC (inAt L i) r) k + useC (inAt L k) r = _
                rw [← unhide HX]; unfold useC; rw [← unhide HTN, ← unhide HTW]
              cases tw
              · go_wp2_with fail
                go_roundw
                case rel =>
                  refine ⟨k + 1, by omega, ?_, by go_num, unhide HA6⟩
                  rw [unhide HU, if_neg (by decide)]
                  have := unhide HS
                  congr 1
                  omega
                case measure => simp [intOf]; omega
              · have wS1 : IntKind.i64.wrap ((S : Int) + (tn : Int) + 1) = (S : Int) + (tn : Int) + 1 := by rw [IntKind.wrap_i64]; omega
                go_wp2_with fail
                go_roundw
                case rel =>
                  refine ⟨k + 1, by omega, ?_, by go_num, unhide HA6⟩
                  rw [unhide HU, if_pos True.intro]
                  have := unhide HS
                  congr 1
                  omega
                case measure => simp [intOf]; omega
            · obtain rfl : k = L.length := by omega
              go_wp2_with fail
              go_roundw
              case rel =>
                refine ⟨r + 1, by omega, unhide HM1, ?_, by go_num, unhide HA⟩
                rw [hsum_succ, if_neg (unhide HCK)]
                exact congrArg (fun n : Nat => Value.int .i64 (n : Int)) (unhide HS)
              case measure => simp [intOf]; omega
      · have cm1 : ¬ (m : Int) < (cr : Int) + 1 := by omega
        have HM1 : Hid (Value.int .i64 (m : Int) = .int .i64 ((cntTo (colB L R) (r + 1) : Nat) : Int)) := by unfold Hid; rw [unhide HMS, if_neg cm]
        clear cm HMS
        by_cases ck : colB L R r < K - 2
        · have ck1 : (cr : Int) < (K : Int) - 2 := by have := unhide HCR; omega
          have HCK := hide ck
          clear ck
          go_wp2_with fail
          go_roundw
          case rel => exact ⟨r + 1, by omega, unhide HM1, by rw [hsum_succ, if_pos (unhide HCK), Nat.add_zero], by go_num, unhide HA⟩
          case measure => simp [intOf]; omega
        · have ck1 : ¬ (cr : Int) < (K : Int) - 2 := by have := unhide HCR; omega
          have HCK := hide ck
          clear ck
          obtain ⟨wo, rfl⟩ : ∃ wo, wo = wr := ⟨_, rfl⟩
          go_wp2_with fail
          go_loopw [9, 11] (fun h' i' wx => ∃ k : Nat, k ≤ L.length ∧ h' = .int .i64 ((hsum L R K r + sumN (fun i => useC (inAt L i) r) k : Nat) : Int) ∧ i' = .int .i64 k ∧ Hid (AB w wx P R V L (some ⟨bb, off, none⟩) cap (some ⟨cb, co, none⟩) uo C)) (fun _ i' _ => L.length - (intOf i').toNat)
          case atStart => exact ⟨0, Nat.zero_le _, rfl, rfl, unhide HA⟩
          case round =>
            clear HA
            obtain ⟨k, hk, rfl, rfl, HA⟩ := hrel
            have p3 := (unhide HA).pb.p.c3
            obtain ⟨S, hS⟩ : ∃ S, S = hsum L R K r + sumN (fun i => useC (inAt L i) r) k := ⟨_, rfl⟩
            have hSle : S ≤ 1440 := by
              have h1 := hsum_le L R K r
              have h2 : sumN (fun i => useC (inAt L i) r) k ≤ k * 3 := sumN_le (fun j _ => use_le _ _)
              have h3 : r * (L.length * 3) ≤ 11 * 120 := Nat.mul_le_mul (by omega) (by omega)
              omega
            rw [← hS]
            have HS := hide hS
            clear hS
            by_cases hkl : k < L.length
            · have hki : (k : Int) < (L.length : Int) := by omega
              have hk0 : (0 : Int) ≤ (k : Int) := by omega
              have ho := unhide HOP k hkl
              obtain ⟨q0, q1, q2, q3⟩ := (unhide HA).pb.at4 hkl
              obtain ⟨x, hx⟩ : ∃ x, x = inAt L k := ⟨_, rfl⟩
              rw [← hx] at q0 q1 q2 q3 ho
              obtain ⟨op, d, xa, xb⟩ := x
              simp only at q0 q1 q2 q3 ho
              have HO1 := hide ho
              have HX := hide hx
              clear ho hx
              have hrd : rdC ⟨op, d, xa, xb⟩ r ≤ 3 := Nat.le_trans (Nat.le_add_right _ _) (use_le ⟨op, d, xa, xb⟩ r)
              obtain ⟨tn, htn⟩ : ∃ t, t = rdC ⟨op, d, xa, xb⟩ r := ⟨_, rfl⟩
              obtain ⟨tw, htw⟩ : ∃ t, t = wrB ⟨op, d, xa, xb⟩ r := ⟨_, rfl⟩
              have KR1 := hide (unhide KR op d xa xb r (unhide HO1) wr)
              rw [← htn] at KR1 hrd
              have HTN := hide htn
              have HTW := hide htw
              clear htn htw
              go_wp2_with fail
              refine (unhide KR1).mono ?_
              rintro _ w5 ⟨rfl, hb5⟩
              have HA5 := hide ((unhide HA).next hb5)
              clear q0 q1 q2 q3 p3 hb5 KR1
              have p3 := (unhide HA5).pb.p.c3
              obtain ⟨q0, q1, q2, q3⟩ := (unhide HA5).pb.at4 hkl
              rw [← unhide HX] at q0 q1 q2 q3
              simp only at q0 q1 q2 q3
              have KW1 := hide (unhide KW op d xa xb r (unhide HO1) w5)
              rw [← unhide HTW] at KW1
              have wS : IntKind.i64.wrap ((S : Int) + (tn : Int)) = (S : Int) + (tn : Int) := by rw [IntKind.wrap_i64]; omega
              go_wp2_with fail
              refine (unhide KW1).mono ?_
              rintro _ w6 ⟨rfl, hb6⟩
              have HA6 := hide ((unhide HA5).next hb6)
              clear q0 q1 q2 q3 p3 hb6 KW1
              have HU : Hid (sumN (fun i => useC (inAt L i) r) (k + 1) = sumN (fun i => useC (inAt L i) r) k + (tn + if tw = true then 1 else 0)) := by
                show sumN (fun i => useC (inAt L i) r) k + useC (inAt L k) r = _
                rw [← unhide HX]; unfold useC; rw [← unhide HTN, ← unhide HTW]
              cases tw
              · go_wp2_with fail
                go_roundw
                case rel =>
                  refine ⟨k + 1, by omega, ?_, by go_num, unhide HA6⟩
                  rw [unhide HU, if_neg (by decide)]
                  have := unhide HS
                  congr 1
                  omega
                case measure => simp [intOf]; omega
              · have wS1 : IntKind.i64.wrap ((S : Int) + (tn : Int) + 1) = (S : Int) + (tn : Int) + 1 := by rw [IntKind.wrap_i64]; omega
                go_wp2_with fail
                go_roundw
                case rel =>
                  refine ⟨k + 1, by omega, ?_, by go_num, unhide HA6⟩
                  rw [unhide HU, if_pos True.intro]
                  have := unhide HS
                  congr 1
                  omega
                case measure => simp [intOf]; omega
            · obtain rfl : k = L.length := by omega
              go_wp2_with fail
              go_roundw
              case rel =>
                refine ⟨r + 1, by omega, unhide HM1, ?_, by go_num, unhide HA⟩
                rw [hsum_succ, if_neg (unhide HCK)]
                exact congrArg (fun n : Nat => Value.int .i64 (n : Int)) (unhide HS)
              case measure => simp [intOf]; omega
    · obtain rfl : r = R := by omega
      obtain ⟨M, hM⟩ : ∃ M, M = cntTo (colB L r) r := ⟨_, rfl⟩
      obtain ⟨Hs, hHs⟩ : ∃ Hs, Hs = hsum L r K r := ⟨_, rfl⟩
      rw [← hM, ← hHs]
      have HM := hide hM
      have HHS := hide hHs
      clear hM hHs
      go_wp2_with fail
      obtain ⟨wo, rfl⟩ : ∃ wo, wo = wr := ⟨_, rfl⟩
      go_loopw [14, 15, 16] (fun l' s' i' wx => ∃ k : Nat, k ≤ C.length ∧ l' = .int .i64 ((cntO 15 (C.take k) : Nat) : Int) ∧ s' = .int .i64 ((cntO 16 (C.take k) : Nat) : Int) ∧ i' = .int .i64 k ∧ wx = wo) (fun _ _ i' _ => C.length - (intOf i').toNat)
      case atStart => exact ⟨0, Nat.zero_le _, rfl, rfl, rfl, rfl⟩
      case round =>
        obtain ⟨k, hk, rfl, rfl, rfl, rfl⟩ := hrel
        have l15 := Nat.le_trans (cntO_take_le 15 C k) (cntO_len 15 C)
        have l16 := Nat.le_trans (cntO_take_le 16 C k) (cntO_len 16 C)
        by_cases hkc : k < C.length
        · have hki : (k : Int) < (C.length : Int) := by omega
          have hk0 : (0 : Int) ≤ (k : Int) := by omega
          obtain ⟨ub, ue, hue, _, hC⟩ := held_at (unhide HA).unit (by omega)
          have q0 := (hC k hkc).1
          have s15 := hide (cntO_take 15 C k hkc)
          have s16 := hide (cntO_take 16 C k hkc)
          obtain ⟨o, ho⟩ : ∃ o, o = (inAt C k).op := ⟨_, rfl⟩
          rw [← ho] at q0 s15 s16
          obtain ⟨n15, h15⟩ : ∃ n, n = cntO 15 (C.take k) := ⟨_, rfl⟩
          obtain ⟨n16, h16⟩ : ∃ n, n = cntO 16 (C.take k) := ⟨_, rfl⟩
          rw [← h15] at l15 s15
          rw [← h16] at l16 s16
          rw [← h15, ← h16]
          clear hC ho h15 h16
          subst hue
          have w15 : IntKind.i64.wrap ((n15 : Int) + 1) = (n15 : Int) + 1 := by rw [IntKind.wrap_i64]; omega
          have w16 : IntKind.i64.wrap ((n16 : Int) + 1) = (n16 : Int) + 1 := by rw [IntKind.wrap_i64]; omega
          by_cases e15 : o = 15
          · subst e15
            go_wp2_with fail
            go_roundw
            case rel => exact ⟨k + 1, by omega, by rw [unhide s15, if_pos rfl]; rfl, by rw [unhide s16, if_neg (by decide)]; rfl, by go_num, trivial⟩
            case measure => simp [intOf]; omega
          · have g15 : (o == 15) = false := by rw [beq_eq_false_iff_ne]; exact e15
            by_cases e16 : o = 16
            · subst e16
              go_wp2_with fail
              go_roundw
              case rel => exact ⟨k + 1, by omega, by rw [unhide s15, if_neg (by decide)]; rfl, by rw [unhide s16, if_pos rfl]; rfl, by go_num, trivial⟩
              case measure => simp [intOf]; omega
            · have g16 : (o == 16) = false := by rw [beq_eq_false_iff_ne]; exact e16
              have HE15 := hide e15
              have HE16 := hide e16
              clear e15 e16
              go_wp2_with fail
              go_roundw
              case rel => exact ⟨k + 1, by omega, by rw [unhide s15, if_neg (unhide HE15)]; rfl, by rw [unhide s16, if_neg (unhide HE16)]; rfl, by go_num, trivial⟩
              case measure => simp [intOf]; omega
        · obtain rfl : k = C.length := by omega
          rw [List.take_length] at l15 l16 ⊢
          obtain ⟨n15, h15⟩ : ∃ n, n = cntO 15 C := ⟨_, rfl⟩
          obtain ⟨n16, h16⟩ : ∃ n, n = cntO 16 C := ⟨_, rfl⟩
          rw [← h15] at l15 ⊢
          rw [← h16] at l16 ⊢
          have HEND := hide (unhide HCE n15 n16 h15 h16)
          clear h15 h16
          have p0 := (unhide HA).pb.p.c0
          by_cases hmk : cntTo (colB L r) r ≤ K
          · have g1 : (M : Int) ≤ (K : Int) := by have := unhide HM; omega
            obtain ⟨e0, e1⟩ := (unhide HEND).1 hmk
            subst e0
            have e2 : (n15 : Int) ≤ (P : Int) := by omega
            clear hmk e1
            go_wp2_with fail
            go_ret
            exact ⟨rfl, (unhide HA).pb.bel⟩
          · have g1 : ¬ (M : Int) ≤ (K : Int) := by have := unhide HM; omega
            have e1 := (unhide HEND).2 (by omega)
            have hh := hsum_le L r K r
            have h3 : r * (L.length * 3) ≤ 12 * 120 := Nat.mul_le_mul (by omega) (by omega)
            rw [← unhide HHS] at e1 hh
            have e2 : (n15 : Int) + (n16 : Int) ≤ (P : Int) + (Hs : Int) := by omega
            have e3 : IntKind.i64.wrap ((n15 : Int) + (n16 : Int)) = (n15 : Int) + (n16 : Int) := by rw [IntKind.wrap_i64]; omega
            have e4 : IntKind.i64.wrap ((P : Int) + (Hs : Int)) = (P : Int) + (Hs : Int) := by rw [IntKind.wrap_i64]; omega
            clear hmk hh h3 e1
            go_wp2_with fail
            go_ret
            exact ⟨rfl, (unhide HA).pb.bel⟩
end Go.Proofs.YtoepcplbpochpaaDoor
