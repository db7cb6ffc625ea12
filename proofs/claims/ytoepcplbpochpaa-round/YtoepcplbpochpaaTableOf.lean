/-
  What lodgekeep.table makes: a table, in new memory, of whatever raw ranges.
-/
import Derived.Test.YtoepcplbpochpaaOpen
import Derived.Test.YtoepcplbpochpaaDecode
import Derived.Test.YtoepcplbpochpaaPick
import Derived.OpenShut
import Derived.Deep.RegionHeld3
import Derived.Deep.DeepCutAuto
namespace Go.Proofs.Ytoepcplbpochpaa
open Go.RowKit

/-- The last range of a list; of none the zero range. -/
def lastOf (Q : List Rg) : Rg := (Q.getLast?).getD ⟨0, 0, 0, 0, 0⟩

/-- In the midst of a round: what was there stands; the new range x lies in the block that was laid. -/
def St (wr wc : World) (x : Rg) : Prop :=
  Below wr.heap.size wr wc ∧ wc.heap[wr.heap.size]? = some (.cells #[.int .i64 x.v, .int .i64 x.f, .int .i64 x.t, .int .i64 x.k, .int .i64 x.a] 30 (0, 0))

theorem St.c0 {wr wc : World} {x : Rg} (h : St wr wc x) : wc.cell? ⟨wr.heap.size, 0, none⟩ = some (.int .i64 x.v) := by rw [cell_of_row wc _ _ _ 30 (0, 0) h.2]; rfl
theorem St.c1 {wr wc : World} {x : Rg} (h : St wr wc x) : wc.cell? ⟨wr.heap.size, 1, none⟩ = some (.int .i64 x.f) := by rw [cell_of_row wc _ _ _ 30 (0, 0) h.2]; rfl
theorem St.c2 {wr wc : World} {x : Rg} (h : St wr wc x) : wc.cell? ⟨wr.heap.size, 2, none⟩ = some (.int .i64 x.t) := by rw [cell_of_row wc _ _ _ 30 (0, 0) h.2]; rfl
theorem St.c3 {wr wc : World} {x : Rg} (h : St wr wc x) : wc.cell? ⟨wr.heap.size, 3, none⟩ = some (.int .i64 x.k) := by rw [cell_of_row wc _ _ _ 30 (0, 0) h.2]; rfl
theorem St.c4 {wr wc : World} {x : Rg} (h : St wr wc x) : wc.cell? ⟨wr.heap.size, 4, none⟩ = some (.int .i64 x.a) := by rw [cell_of_row wc _ _ _ 30 (0, 0) h.2]; rfl
theorem St.fr {wr wc : World} {x : Rg} (h : St wr wc x) (j : Nat) : wc.frozen? ⟨wr.heap.size, j, none⟩ = false := by simp [World.frozen?, h.2]
theorem St.drew {wr wc : World} {x : Rg} (h : St wr wc x) : St wr wc.drew x := ⟨h.1.drew, h.2⟩
theorem St.new (wr : World) (x : Rg) : St wr (wr.alloc (.cells #[.int .i64 x.v, .int .i64 x.f, .int .i64 x.t, .int .i64 x.k, .int .i64 x.a] 30)) x :=
  ⟨(Below.refl _ _).alloc (Nat.le_refl _) _, heap_alloc_new _ _⟩
theorem St.set0 {wr wc : World} {x : Rg} (h : St wr wc x) (z : Int) : St wr (wc.setCell ⟨wr.heap.size, 0, none⟩ (.int .i64 z)) ⟨z, x.f, x.t, x.k, x.a⟩ :=
  ⟨h.1.setCell (Nat.le_refl _) _, (heap_setCell_same wc _ 0 _ 30 _ h.2).trans rfl⟩
theorem St.set1 {wr wc : World} {x : Rg} (h : St wr wc x) (z : Int) : St wr (wc.setCell ⟨wr.heap.size, 1, none⟩ (.int .i64 z)) ⟨x.v, z, x.t, x.k, x.a⟩ :=
  ⟨h.1.setCell (Nat.le_refl _) _, (heap_setCell_same wc _ 1 _ 30 _ h.2).trans rfl⟩
theorem St.set2 {wr wc : World} {x : Rg} (h : St wr wc x) (z : Int) : St wr (wc.setCell ⟨wr.heap.size, 2, none⟩ (.int .i64 z)) ⟨x.v, x.f, z, x.k, x.a⟩ :=
  ⟨h.1.setCell (Nat.le_refl _) _, (heap_setCell_same wc _ 2 _ 30 _ h.2).trans rfl⟩

/-! MATH -/
theorem lastOf_snoc (Q : List Rg) (x : Rg) : lastOf (Q ++ [x]) = x := by simp [lastOf]
theorem rg_app_left (Q : List Rg) (x : Rg) {i : Nat} (h : i < Q.length) : rg (Q ++ [x]) i = rg Q i := by
  unfold rg; simp only [List.getD_eq_getElem?_getD]; rw [List.getElem?_append_left h]
theorem rg_app_last (Q : List Rg) (x : Rg) : rg (Q ++ [x]) Q.length = x := by unfold rg; simp
theorem rg_last (Q : List Rg) : rg Q (Q.length - 1) = lastOf Q := by
  unfold rg lastOf; rw [List.getLast?_eq_getElem?, List.getD_eq_getElem?_getD]

theorem tabTo_app (Q : List Rg) (x : Rg) : ∀ k, k ≤ Q.length → tabTo (Q ++ [x]) k = tabTo Q k
  | 0, _ => rfl
  | k + 1, h => by
    rw [tabTo_succ, tabTo_succ, tabTo_app Q x k (by omega), rg_app_left Q x (by omega), rg_app_left Q x (show k - 1 < Q.length by omega)]

theorem isTab_snoc {Q : List Rg} {x : Rg} (h : isTab Q = true) (hl : Q.length < 200) (hx : isRg x = true) (hf : 0 < Q.length → follows (lastOf Q) x = true) : isTab (Q ++ [x]) = true := by
  unfold isTab at *
  rw [Bool.and_eq_true, decide_eq_true_eq] at *
  refine ⟨by rw [List.length_append]; show Q.length + 1 ≤ 200; omega, ?_⟩
  rw [List.length_append]
  show tabTo (Q ++ [x]) (Q.length + 1) = true
  rw [tabTo_succ, tabTo_app Q x _ (Nat.le_refl _), h.2, rg_app_last, hx]
  by_cases h0 : Q.length = 0
  · simp [h0]
  · rw [rg_app_left Q x (show Q.length - 1 < Q.length by omega), rg_last Q, hf (by omega)]
    simp

theorem last_ok {Q : List Rg} {r : Rg} (h : isTab Q = true ∧ r = lastOf Q) : 0 ≤ r.t ∧ r.t ≤ 164 ∧ 0 ≤ r.v ∧ r.v ≤ 3 := by
  obtain ⟨h, rfl⟩ := h
  by_cases h0 : 0 < Q.length
  · have := isTab_rg h (show Q.length - 1 < Q.length by omega)
    rw [rg_last Q] at this
    unfold isRg at this
    rw [decide_eq_true_eq] at this
    omega
  · have : Q = [] := List.length_eq_zero_iff.1 (by omega)
    subst this
    decide

theorem set5 {w2 : World} {B : Nat} {r x : Rg} (h : w2.heap[B]? = some (.cells #[.int .i64 r.v, .int .i64 r.f, .int .i64 r.t, .int .i64 r.k, .int .i64 r.a] 30 (0, 0))) :
    (((((w2.setCell ⟨B, 0, none⟩ (.int .i64 x.v)).setCell ⟨B, 1, none⟩ (.int .i64 x.f)).setCell ⟨B, 2, none⟩ (.int .i64 x.t)).setCell ⟨B, 3, none⟩ (.int .i64 x.k)).setCell ⟨B, 4, none⟩ (.int .i64 x.a)).heap[B]? =
      some (.cells #[.int .i64 x.v, .int .i64 x.f, .int .i64 x.t, .int .i64 x.k, .int .i64 x.a] 30 (0, 0)) := by
  have h0 := (heap_setCell_same w2 B 0 _ 30 (.int .i64 x.v) h)
  have h1 := (heap_setCell_same _ B 1 _ 30 (.int .i64 x.f) h0)
  have h2 := (heap_setCell_same _ B 2 _ 30 (.int .i64 x.t) h1)
  have h3 := (heap_setCell_same _ B 3 _ 30 (.int .i64 x.k) h2)
  have h4 := (heap_setCell_same _ B 4 _ 30 (.int .i64 x.a) h3)
  exact h4.trans rfl
theorem own5 {w2 : World} {B base n : Nat} {v : Value} {xs : List Value} {a b c d e : Value} (h : w2.ownsRow base 30 5 v n xs) (hB : B < base) :
    (((((w2.setCell ⟨B, 0, none⟩ a).setCell ⟨B, 1, none⟩ b).setCell ⟨B, 2, none⟩ c).setCell ⟨B, 3, none⟩ d).setCell ⟨B, 4, none⟩ e).ownsRow base 30 5 v n xs :=
  ownsRow_setCell_below (ownsRow_setCell_below (ownsRow_setCell_below (ownsRow_setCell_below (ownsRow_setCell_below h hB _) hB _) hB _) hB _) hB _

/-- What is asked of a new range behind the last one. -/
def Good (Q : List Rg) (r x : Rg) : Prop := 0 ≤ x.v ∧ x.v ≤ 7 ∧ 0 ≤ x.f ∧ x.f < x.t ∧ x.t ≤ 164 ∧ 0 ≤ x.k ∧ x.k ≤ 2 ∧ 0 ≤ x.a ∧ x.a ≤ 65535 ∧ (0 < Q.length → r.v < x.v ∨ r.v = x.v ∧ r.t ≤ x.f ∧ (r.t = x.f → r.k ≠ x.k ∨ r.a ≠ x.a))

theorem good_tab {Q : List Rg} {r x : Rg} (h : isTab Q = true ∧ r = lastOf Q) (hl : Q.length < 200) (hg : Good Q r x) (h4 : x.v < 4) : isTab (Q ++ [x]) = true := by
  obtain ⟨h, rfl⟩ := h
  obtain ⟨a1, a2, a3, a4, a5, a6, a7, a8, a9, a10⟩ := hg
  refine isTab_snoc h hl (by unfold isRg; rw [decide_eq_true_eq]; omega) (fun h0 => ?_)
  have := a10 h0
  unfold follows
  by_cases e : (lastOf Q).v = x.v
  · by_cases e2 : (lastOf Q).t = x.f
    · simp [e, e2]; omega
    · simp [e, e2]; omega
  · simp [e]; omega

set_option maxRecDepth 100000 in
set_option maxHeartbeats 4000000 in
theorem table_any (R : List Rg) (ao : Option Addr) (cap : Nat) (w : World) (hH : Held w ao R) (hI : ∀ i, i < R.length → Ints (rg R i)) (hlen : R.length ≤ 9223372036854775807) :
    Calls Try.prog 17 #[.slice ao R.length cap] w fun e w' => ∃ Q v, isTab Q = true ∧ e = .returned v ∧ w'.ownsRow w.heap.size 30 5 v Q.length (cellsOf Q) ∧ Below w.heap.size w w' := by
  obtain ⟨i0, hi, hz0, hz1, hz2⟩ := info_parts Try.info30
  go_enter Try.func17, Try.ntmps17
  go_wp2
  go_loopw [3, 5, 6] (fun l i _ wr => ∃ (k : Nat) (Q : List Rg) (r : Rg), k ≤ R.length ∧ i = .int .i64 k ∧ Hid (isTab Q = true ∧ r = lastOf Q) ∧ wr.ownsRow (w.heap.size + 1) 30 5 l Q.length (cellsOf Q) ∧
      Hid (wr.heap[w.heap.size]? = some (.cells #[.int .i64 r.v, .int .i64 r.f, .int .i64 r.t, .int .i64 r.k, .int .i64 r.a] 30 (0, 0))) ∧ Below w.heap.size w wr) (fun _ i _ _ => R.length - (intOf i).toNat)
  case atStart => exact ⟨0, [], ⟨0, 0, 0, 0, 0⟩, Nat.zero_le _, rfl, ⟨rfl, rfl⟩, World.ownsRow_nil _ _ _ _, heap_alloc_new _ _, (Below.refl _ _).alloc (Nat.le_refl _) _⟩
  case round =>
    obtain ⟨k, Q, r, hk, rfl, HQ, hown, HL, hbel⟩ := hrel
    have hQl : Q.length ≤ 200 := isTab_len HQ.1
    have hB := hbel.size
    have hB1 : w.heap.size < wr.heap.size := (Array.getElem?_eq_some_iff.1 HL).1
    obtain ⟨ql, qc, hv, hheld, _, _, hin⟩ := own_held hown
    subst hv
    have HIn := hide hin
    clear hheld hin
    by_cases hgo : k < R.length ∧ Q.length < 200
    case neg =>
      by_cases hkk : k < R.length
      all_goals
        first | (have h200 : 200 ≤ Q.length := by omega) | skip
        go_wp2
        go_ret
        exact ⟨Q, _, HQ.1, rfl, own_weaken hown (Nat.le_succ _), hbel⟩
    obtain ⟨hlt, hq2⟩ := hgo
    obtain ⟨b, off, rfl, hb, hl⟩ : ∃ b off, ao = some ⟨b, off, none⟩ ∧ b < w.heap.size ∧ Lie w b off R := by
      rcases hH with h | h
      · subst h; exact absurd hlt (by simp)
      · exact h
    obtain ⟨c0, c1, c2, c3, c4⟩ := (hl k hlt).below hbel hb
    obtain ⟨w0, w1, w2, w3, w4⟩ := hI k hlt
    obtain ⟨m0, n0⟩ := bounds_i64 w0
    obtain ⟨m1, n1⟩ := bounds_i64 w1
    obtain ⟨m2, n2⟩ := bounds_i64 w2
    obtain ⟨m3, n3⟩ := bounds_i64 w3
    obtain ⟨m4, n4⟩ := bounds_i64 w4
    clear w0 w1 w2 w3 w4
    have hbr : b < wr.heap.size := Nat.lt_trans hb hB1
    have hik : (k : Int) < (R.length : Int) := by omega
    have l0 : wr.cell? ⟨w.heap.size, 0, none⟩ = some (.int .i64 r.v) := by rw [cell_of_row wr _ _ _ 30 (0, 0) HL]; rfl
    have l1 : wr.cell? ⟨w.heap.size, 2, none⟩ = some (.int .i64 r.t) := by rw [cell_of_row wr _ _ _ 30 (0, 0) HL]; rfl
    have HCS := hide (And.intro c0 (And.intro c1 c2))
    obtain ⟨pk0, pk1⟩ := pick_lt (rg R k).k 3 (by decide)
    obtain ⟨pa0, pa1⟩ := pick_lt (rg R k).a 65536 (by decide)
    obtain ⟨pf0, pf1⟩ := pick_lt (rg R k).f 164 (by decide)
    obtain ⟨pt0, pt1⟩ := pick_lt (rg R k).t 164 (by decide)
    obtain ⟨pv0, pv1⟩ := pick_lt (rg R k).v 3 (by decide)
    obtain ⟨hrt0, hrt1, hrv0, hrv1⟩ := last_ok HQ
    have hkL : ∀ (wq : World) (j o : Nat) (z : Value), (wq.setCell ⟨wr.heap.size, j, none⟩ z).cell? ⟨w.heap.size, o, none⟩ = wq.cell? ⟨w.heap.size, o, none⟩ := fun wq j o z => World.cell?_setCell_other _ _ _ _ (fun e => by injection e with e1; omega)
    have hkR : ∀ (wq : World) (j o : Nat) (z : Value), (wq.setCell ⟨wr.heap.size, j, none⟩ z).cell? ⟨b, o, none⟩ = wq.cell? ⟨b, o, none⟩ := fun wq j o z => World.cell?_setCell_other _ _ _ _ (fun e => by injection e with e1; omega)
    have hkX : ∀ (wq : World) (z : Value), (wq.setCell ⟨wr.heap.size, 2, none⟩ z).cell? ⟨wr.heap.size, 1, none⟩ = wq.cell? ⟨wr.heap.size, 1, none⟩ := fun wq z => World.cell?_setCell_other _ _ _ _ (fun e => by injection e with e1 e2; omega)
    go_upto_region 6 with fail
    go_cut [6] from 8 to 134 (fun p wc => p = .pointer (some ⟨wr.heap.size, 0, none⟩) ∧ St wr wc ⟨r.v, 0, 0, pickI (rg R k).k 3, pickI (rg R k).a 65536⟩)
    case first =>
      go_region_held3 (fun w' => w'.cell? ⟨w.heap.size, 0, none⟩ = some (.int .i64 r.v) ∧ w'.cell? ⟨w.heap.size, 2, none⟩ = some (.int .i64 r.t) ∧ w'.cell? ⟨b, off + k * 5 + 3, none⟩ = some (.int .i64 (rg R k).k) ∧ w'.cell? ⟨b, off + k * 5 + 4, none⟩ = some (.int .i64 (rg R k).a)) (first | go_keep | (simp [*]))
        (first | (go_at_call 16; refine (pick_any _ _ _ ?_ ?_ ?_).mono ?_; assumption; assumption; decide; rintro e w' ⟨rfl, hw⟩; subst hw))
      all_goals
        go_wp2
        go_meet
        case rel => exact ⟨rfl, (St.new wr ⟨r.v, 0, 0, pickI (rg R k).k 3, pickI (rg R k).a 65536⟩).drew⟩
    case rest =>
    clear c0 c1 c2 c3 c4 l0
    obtain ⟨rfl, hS⟩ := hcut
    have HS := hide hS
    have d1 : wc.cell? ⟨b, off + k * 5 + 1, none⟩ = some (.int .i64 (rg R k).f) := (hS.1.cell (by exact hbr)).trans (unhide HCS).2.1
    have e2 : wc.cell? ⟨w.heap.size, 2, none⟩ = some (.int .i64 r.t) := (hS.1.cell (by exact hB1)).trans l1
    have x1 := hS.c1
    have xf := hS.fr 1
    clear hS
    have a1 : IntKind.i64.wrap (r.t + pickI (rg R k).f 164) = r.t + pickI (rg R k).f 164 := by rw [IntKind.wrap_i64]; omega
    go_upto_region 7 with fail
    go_cut [6] from 8 to 134 (fun p wd => p = .pointer (some ⟨wr.heap.size, 0, none⟩) ∧ St wr wd ⟨r.v, r.t + pickI (rg R k).f 164, 0, pickI (rg R k).k 3, pickI (rg R k).a 65536⟩)
    case first =>
      go_region_held3 (fun w' => w'.cell? ⟨w.heap.size, 2, none⟩ = some (.int .i64 r.t) ∧ w'.cell? ⟨b, off + k * 5 + 1, none⟩ = some (.int .i64 (rg R k).f)) (first | go_keep | (simp [*]))
        (first | (go_at_call 16; refine (pick_any _ _ _ ?_ ?_ ?_).mono ?_; assumption; assumption; decide; rintro e w' ⟨rfl, hw⟩; subst hw))
      all_goals
        go_wp2
        go_meet
        case rel => exact ⟨rfl, ((unhide HS).set1 _).drew⟩
    case rest =>
    clear d1 e2 x1 xf HS
    obtain ⟨rfl, hS⟩ := hcut
    obtain ⟨f1, hf1, HF1⟩ : ∃ f1, r.t ≤ f1 ∧ f1 ≤ 328 ∧ Hid (f1 = r.t + pickI (rg R k).f 164) := ⟨_, by omega, by omega, rfl⟩
    obtain ⟨hf2, HF1⟩ := HF1
    rw [← unhide HF1] at hS
    have HS := hide hS
    have x1 := hS.c1
    have x3 := hS.c3
    have x4 := hS.c4
    have xf := hS.fr 1
    have y2 : wc.cell? ⟨w.heap.size, 2, none⟩ = some (.int .i64 r.t) := (hS.1.cell (by exact hB1)).trans l1
    have y3 : wc.cell? ⟨w.heap.size, 3, none⟩ = some (.int .i64 r.k) := (hS.1.cell (by exact hB1)).trans (by rw [cell_of_row wr _ _ _ 30 (0, 0) HL]; rfl)
    have y4 : wc.cell? ⟨w.heap.size, 4, none⟩ = some (.int .i64 r.a) := (hS.1.cell (by exact hB1)).trans (by rw [cell_of_row wr _ _ _ 30 (0, 0) HL]; rfl)
    clear hS a1
    go_upto_region 8 with fail
    go_cut [67] from 8 to 134 (fun q wd => q = .bool (decide (0 < Q.length ∧ f1 = r.t ∧ pickI (rg R k).k 3 = r.k ∧ pickI (rg R k).a 65536 = r.a)) ∧ wd = wc)
    case first =>
      go_wp2
      all_goals
        go_meet
        case rel => exact ⟨congrArg Value.bool (by rw [Bool.eq_iff_iff]; simp only [beq_iff_eq, decide_eq_true_eq, Bool.false_eq_true, false_iff]; omega), rfl⟩
    case rest =>
    obtain ⟨rfl, rfl⟩ := hcut
    clear x3 x4 y2 y3 y4
    go_upto_if 67 with fail
    go_cut [6] from 8 to 134 (fun p wd => p = .pointer (some ⟨wr.heap.size, 0, none⟩) ∧ ∃ f2 : Int, f1 ≤ f2 ∧ f2 ≤ f1 + 1 ∧ Hid (0 < Q.length → r.t = f2 → r.k ≠ pickI (rg R k).k 3 ∨ r.a ≠ pickI (rg R k).a 65536) ∧ St wr wd ⟨r.v, f2, 0, pickI (rg R k).k 3, pickI (rg R k).a 65536⟩)
    case first =>
      by_cases hC : 0 < Q.length ∧ f1 = r.t ∧ pickI (rg R k).k 3 = r.k ∧ pickI (rg R k).a 65536 = r.a
      · have hC' := decide_eq_true hC
        have HC := hide hC
        clear hC
        go_wp2
        go_meet
        case rel => exact ⟨rfl, f1 + 1, by omega, by omega, fun h1 h2 => by have := unhide HC; omega, by rw [(unhide HC).2.1]; exact (unhide HS).set1 _⟩
      · have hC' := decide_eq_false hC
        have HC := hide hC
        clear hC
        go_wp2
        go_meet
        case rel => exact ⟨rfl, f1, by omega, by omega, fun h1 h2 => by have := unhide HC; omega, unhide HS⟩
    case rest =>
    clear x1 xf HS
    obtain ⟨rfl, f2, hf3, hf4, HK, hS⟩ := hcut
    have HS := hide hS
    have x1 := hS.c1
    have x2 := hS.c2
    have xf := hS.fr 2
    have d2 : wc.cell? ⟨b, off + k * 5 + 2, none⟩ = some (.int .i64 (rg R k).t) := (hS.1.cell (by exact hbr)).trans (unhide HCS).2.2
    clear hS
    have a1 : IntKind.i64.wrap (f2 + 1) = f2 + 1 := by rw [IntKind.wrap_i64]; omega
    have a2 : IntKind.i64.wrap (f2 + 1 + pickI (rg R k).t 164) = f2 + 1 + pickI (rg R k).t 164 := by rw [IntKind.wrap_i64]; omega
    go_upto_region 10 with fail
    go_cut [6] from 8 to 134 (fun p wd => p = .pointer (some ⟨wr.heap.size, 0, none⟩) ∧ St wr wd ⟨r.v, f2, f2 + 1 + pickI (rg R k).t 164, pickI (rg R k).k 3, pickI (rg R k).a 65536⟩)
    case first =>
      go_region_held3 (fun w' => w'.cell? ⟨wr.heap.size, 1, none⟩ = some (.int .i64 f2) ∧ w'.cell? ⟨b, off + k * 5 + 2, none⟩ = some (.int .i64 (rg R k).t)) (first | go_keep | (simp [*]))
        (first | (go_at_call 16; refine (pick_any _ _ _ ?_ ?_ ?_).mono ?_; assumption; assumption; decide; rintro e w' ⟨rfl, hw⟩; subst hw))
      all_goals
        go_wp2
        go_meet
        case rel => exact ⟨rfl, ((unhide HS).set2 _).drew⟩
    case rest =>
    clear x1 x2 xf d2 a1 a2 HS
    obtain ⟨rfl, hS⟩ := hcut
    obtain ⟨t1, ht1, ht2⟩ : ∃ t1, f2 < t1 ∧ t1 = f2 + 1 + pickI (rg R k).t 164 := ⟨_, by omega, rfl⟩
    rw [← ht2] at hS
    clear ht2
    have HS := hide hS
    have x2 := hS.c2
    have d0 : wc.cell? ⟨b, off + k * 5, none⟩ = some (.int .i64 (rg R k).v) := (hS.1.cell (by exact hbr)).trans (unhide HCS).1
    clear hS
    go_upto_region 11 with fail
    go_cut [93] from 8 to 134 (fun q wd => q = .bool (decide (164 < t1 ∨ (rg R k).v < 0)) ∧ wd = wc)
    case first =>
      go_wp2
      all_goals
        go_meet
        case rel => exact ⟨congrArg Value.bool (by rw [eq_comm]; first | exact Bool.decide_or _ _ | (refine decide_eq_true ?_; omega) | (refine decide_eq_false ?_; omega) | (refine decide_eq_decide.2 ?_; omega)), rfl⟩
    case rest =>
    obtain ⟨rfl, rfl⟩ := hcut
    clear x2 d0
    go_upto_if 93 with fail
    go_cut [6] from 8 to 134 (fun p wd => p = .pointer (some ⟨wr.heap.size, 0, none⟩) ∧ ∃ x : Rg, Hid (Good Q r x) ∧ St wr wd x)
    case first =>
      by_cases hC : 164 < t1 ∨ (rg R k).v < 0
      case neg =>
        have hC' := decide_eq_false hC
        have HC := hide hC
        go_wp2
        go_meet
        case rel => exact ⟨rfl, ⟨r.v, f2, t1, pickI (rg R k).k 3, pickI (rg R k).a 65536⟩, ⟨hrv0, show r.v ≤ 7 by omega, show 0 ≤ f2 by omega, ht1, show t1 ≤ 164 by have := unhide HC; omega, pk0, show pickI (rg R k).k 3 ≤ 2 by omega, pa0, show pickI (rg R k).a 65536 ≤ 65535 by omega, fun h0 => .inr ⟨rfl, show r.t ≤ f2 by omega, fun e => unhide HK h0 e⟩⟩, unhide HS⟩
      have hC' := decide_eq_true hC
      obtain ⟨pu0, pu1⟩ := pick_lt (rg R k).t (164 - pickI (rg R k).f 164) (by omega)
      have hpu : 0 < 164 - pickI (rg R k).f 164 := by omega
      have hSS := unhide HS
      have x0 := hSS.c0
      have x1 := hSS.c1
      have x2 := hSS.c2
      have xf0 := hSS.fr 0
      have xf1 := hSS.fr 1
      have xf2 := hSS.fr 2
      have d0 : wc.cell? ⟨b, off + k * 5, none⟩ = some (.int .i64 (rg R k).v) := (hSS.1.cell (by exact hbr)).trans (unhide HCS).1
      have d1 : wc.cell? ⟨b, off + k * 5 + 1, none⟩ = some (.int .i64 (rg R k).f) := (hSS.1.cell (by exact hbr)).trans (unhide HCS).2.1
      have d2 : wc.cell? ⟨b, off + k * 5 + 2, none⟩ = some (.int .i64 (rg R k).t) := (hSS.1.cell (by exact hbr)).trans (unhide HCS).2.2
      clear hSS
      have a1 : IntKind.i64.wrap (r.v + 1) = r.v + 1 := by rw [IntKind.wrap_i64]; omega
      have a2 : IntKind.i64.wrap (r.v + 1 + pickI (rg R k).v 3) = r.v + 1 + pickI (rg R k).v 3 := by rw [IntKind.wrap_i64]; omega
      go_upto_region 12 with fail
      go_cut [6] from 8 to 134 (fun p wd => p = .pointer (some ⟨wr.heap.size, 0, none⟩) ∧ St wr wd ⟨r.v + 1 + pickI (rg R k).v 3, f2, t1, pickI (rg R k).k 3, pickI (rg R k).a 65536⟩)
      case first =>
        go_region_with (go_at_call 16; refine (pick_any _ _ _ ?_ ?_ ?_).mono ?_; assumption; assumption; decide; rintro e w' ⟨rfl, hw⟩; subst hw)
        all_goals
          go_wp2
          go_meet
          case rel => exact ⟨rfl, ((unhide HS).set0 _).drew⟩
      case rest =>
      clear x0 x1 x2 xf0 xf1 xf2 d0 d1 d2 a1 a2 HS
      obtain ⟨rfl, hS⟩ := hcut
      have HS := hide hS
      have x1 := hS.c1
      have xf1 := hS.fr 1
      have d1 : wc.cell? ⟨b, off + k * 5 + 1, none⟩ = some (.int .i64 (rg R k).f) := (hS.1.cell (by exact hbr)).trans (unhide HCS).2.1
      clear hS
      go_upto_region 13 with fail
      go_cut [6] from 8 to 134 (fun p wd => p = .pointer (some ⟨wr.heap.size, 0, none⟩) ∧ St wr wd ⟨r.v + 1 + pickI (rg R k).v 3, pickI (rg R k).f 164, t1, pickI (rg R k).k 3, pickI (rg R k).a 65536⟩)
      case first =>
        go_wp2_with (go_at_call 16; refine (pick_any _ _ _ ?_ ?_ ?_).mono ?_; assumption; assumption; decide; rintro e w' ⟨rfl, hw⟩; subst hw)
        go_meet
        case rel => exact ⟨rfl, (unhide HS).set1 _⟩
      case rest =>
      clear x1 xf1 d1 HS
      obtain ⟨rfl, hS⟩ := hcut
      have HS := hide hS
      have x1 := hS.c1
      have x2 := hS.c2
      have xf2 := hS.fr 2
      have d2 : wc.cell? ⟨b, off + k * 5 + 2, none⟩ = some (.int .i64 (rg R k).t) := (hS.1.cell (by exact hbr)).trans (unhide HCS).2.2
      clear hS
      have a1 : IntKind.i64.wrap (pickI (rg R k).f 164 + 1) = pickI (rg R k).f 164 + 1 := by rw [IntKind.wrap_i64]; omega
      have a2 : IntKind.i64.wrap (164 - pickI (rg R k).f 164) = 164 - pickI (rg R k).f 164 := by rw [IntKind.wrap_i64]; omega
      have a3 : IntKind.i64.wrap (pickI (rg R k).f 164 + 1 + pickI (rg R k).t (164 - pickI (rg R k).f 164)) = pickI (rg R k).f 164 + 1 + pickI (rg R k).t (164 - pickI (rg R k).f 164) := by rw [IntKind.wrap_i64]; omega
      go_upto_region 14 with fail
      go_region_held3 (fun w' => w'.cell? ⟨wr.heap.size, 1, none⟩ = some (.int .i64 (pickI (rg R k).f 164)) ∧ w'.cell? ⟨b, off + k * 5 + 2, none⟩ = some (.int .i64 (rg R k).t)) (first | go_keep | (simp [*]))
        (first | (go_at_call 16; refine (pick_any _ _ _ ?_ ?_ ?_).mono ?_; assumption; assumption; assumption; rintro e w' ⟨rfl, hw⟩; subst hw))
      all_goals
        go_wp2
        go_meet
        case rel => exact ⟨rfl, ⟨r.v + 1 + pickI (rg R k).v 3, pickI (rg R k).f 164, pickI (rg R k).f 164 + 1 + pickI (rg R k).t (164 - pickI (rg R k).f 164), pickI (rg R k).k 3, pickI (rg R k).a 65536⟩, ⟨show 0 ≤ r.v + 1 + pickI (rg R k).v 3 by omega, show r.v + 1 + pickI (rg R k).v 3 ≤ 7 by omega, pf0, show pickI (rg R k).f 164 < pickI (rg R k).f 164 + 1 + pickI (rg R k).t (164 - pickI (rg R k).f 164) by omega, show pickI (rg R k).f 164 + 1 + pickI (rg R k).t (164 - pickI (rg R k).f 164) ≤ 164 by omega, pk0, show pickI (rg R k).k 3 ≤ 2 by omega, pa0, show pickI (rg R k).a 65536 ≤ 65535 by omega, fun h0 => .inl (show r.v < r.v + 1 + pickI (rg R k).v 3 by omega)⟩, ((unhide HS).set2 _).drew⟩
    case rest =>
    clear HS HK
    obtain ⟨rfl, x, HG, hS⟩ := hcut
    have HS := hide hS
    have x0 := hS.c0
    have x1 := hS.c1
    have x2 := hS.c2
    have x3 := hS.c3
    have x4 := hS.c4
    have hbw := hbel.trans (hS.1.mono hbel.size)
    have hown2 := own_below hown hS.1
    have hsz := hS.1.size
    clear hS hown
    by_cases h4 : 4 ≤ x.v
    · go_wp2
      go_ret
      exact ⟨Q, _, HQ.1, rfl, own_weaken hown2 (Nat.le_succ _), hbw⟩
    · have hn := hide (good_tab HQ hq2 HG (by omega))
      go_wp2_with (at_builtin; refine wpList_append_own _ rfl _ _ 28 rfl (w.heap.size + 1) 30 i0 (.agg #[.int .i64 0, .int .i64 0, .int .i64 0, .int .i64 0, .int .i64 0]) 5 40 Try.underlying28 hi hz0 hz1 hz2 rfl (by decide) _ _ _ rfl (hown2.alloc _) ⟨wc.heap.size, 0, none⟩ 1 1 [.int .i64 x.v, .int .i64 x.f, .int .i64 x.t, .int .i64 x.k, .int .i64 x.a] rfl rfl ?c1 ?c2 ?c3 ?c4 ?c5 ?_)
      case c2 => exact ⟨rfl, rfl, rfl, rfl, rfl⟩
      case c3 => unfold maxLen; omega
      case c4 => omega
      case c5 => first | omega | (simp; omega)
      intro v' w2 hown' hgrow _
      have hge := own_ge hown2
      have hltO : ∀ k, (Value.slice ql Q.length qc).ownBlock = some k → k < wr.heap.size := fun k hk => by
        cases ql with
        | none => simp [Value.ownBlock] at hk
        | some a => obtain ⟨g, o, sp⟩ := a; simp [Value.ownBlock] at hk; subst hk; exact (unhide HIn _ _ _ rfl).2
      have hX : w2.heap[wr.heap.size]? = some (.cells #[.int .i64 x.v, .int .i64 x.f, .int .i64 x.t, .int .i64 x.k, .int .i64 x.a] 30 (0, 0)) := by
        have hlt : wr.heap.size < wc.heap.size := (Array.getElem?_eq_some_iff.1 (unhide HS).2).1
        rw [hgrow.block wr.heap.size (by simp; omega) (fun e => by have := hltO _ e.symm; omega), ((Below.refl wc.heap.size wc).alloc (Nat.le_refl _) _).block _ hlt]
        exact (unhide HS).2
      have hL : w2.heap[w.heap.size]? = some (.cells #[.int .i64 r.v, .int .i64 r.f, .int .i64 r.t, .int .i64 r.k, .int .i64 r.a] 30 (0, 0)) := by
        rw [hgrow.block w.heap.size (by simp; omega) (fun e => by have := hge _ e.symm; omega), ((Below.refl wc.heap.size wc).alloc (Nat.le_refl _) _).block _ (by omega), (unhide HS).1.block _ hB1]
        exact HL
      have hb2 : Below w.heap.size w w2 := (hbw.alloc hbw.size _).grown hgrow (by simp; omega) (fun k hk => by have := hge k hk; omega)
      have z0 : w2.cell? ⟨wr.heap.size, 0, none⟩ = some (.int .i64 x.v) := by rw [cell_of_row w2 _ _ _ 30 (0, 0) hX]; rfl
      have z1 : w2.cell? ⟨wr.heap.size, 1, none⟩ = some (.int .i64 x.f) := by rw [cell_of_row w2 _ _ _ 30 (0, 0) hX]; rfl
      have z2 : w2.cell? ⟨wr.heap.size, 2, none⟩ = some (.int .i64 x.t) := by rw [cell_of_row w2 _ _ _ 30 (0, 0) hX]; rfl
      have z3 : w2.cell? ⟨wr.heap.size, 3, none⟩ = some (.int .i64 x.k) := by rw [cell_of_row w2 _ _ _ 30 (0, 0) hX]; rfl
      have z4 : w2.cell? ⟨wr.heap.size, 4, none⟩ = some (.int .i64 x.a) := by rw [cell_of_row w2 _ _ _ 30 (0, 0) hX]; rfl
      have q0 : w2.cell? ⟨w.heap.size, 0, none⟩ = some (.int .i64 r.v) := by rw [cell_of_row w2 _ _ _ 30 (0, 0) hL]; rfl
      have q1 : w2.cell? ⟨w.heap.size, 1, none⟩ = some (.int .i64 r.f) := by rw [cell_of_row w2 _ _ _ 30 (0, 0) hL]; rfl
      have q2 : w2.cell? ⟨w.heap.size, 2, none⟩ = some (.int .i64 r.t) := by rw [cell_of_row w2 _ _ _ 30 (0, 0) hL]; rfl
      have q3 : w2.cell? ⟨w.heap.size, 3, none⟩ = some (.int .i64 r.k) := by rw [cell_of_row w2 _ _ _ 30 (0, 0) hL]; rfl
      have q4 : w2.cell? ⟨w.heap.size, 4, none⟩ = some (.int .i64 r.a) := by rw [cell_of_row w2 _ _ _ 30 (0, 0) hL]; rfl
      have fz : ∀ j, w2.frozen? ⟨w.heap.size, j, none⟩ = false := fun j => by simp [World.frozen?, hL]
      have HL2 := hide hL
      have HO2 := hide hown'
      clear hX hL hgrow hown' hge hltO hown2 HS
      go_wp2
      go_roundw
      case rel => exact ⟨k + 1, Q ++ [x], x, by omega, by go_num, ⟨unhide hn, (lastOf_snoc Q x).symm⟩, own5 (by rw [List.length_append, cellsOf_snoc]; exact unhide HO2) (Nat.lt_succ_self _), set5 (unhide HL2), (((((hb2.setCell (Nat.le_refl _) _).setCell (Nat.le_refl _) _).setCell (Nat.le_refl _) _).setCell (Nat.le_refl _) _).setCell (Nat.le_refl _) _)⟩
      case measure => simp [intOf]; omega
end Go.Proofs.Ytoepcplbpochpaa
