/-
  Plain mathematics: which registers collide, their colours, their homes.
-/
import Derived.Test.YtoepcplbpochpaaDoorPiece1
import Derived.Deep.RegionHeld3
import Derived.Handy
import Derived.Test.YtoepcplbpochpaaDoorPiece2
import Derived.Deep.WholeRow
import Derived.Laws.Rows
import Derived.Laws.BitsLemmas

namespace Go.Proofs.YtoepcplbpochpaaDoor
open Go.RowKit

/-- r collides with each of a set. -/
def hitAdd (r : Int) (set : Nat → Bool) (h : Nat → Nat → Bool) : Nat → Nat → Bool := fun a b => h a b || ((a : Int) == r && set b) || ((b : Int) == r && set a)
/-- The first k registers that are live at the beginning collide with all that are. -/
def hitsR (L : List In4) : Nat → Nat → Nat → Bool
  | 0 => fun _ _ => false
  | k + 1 => if liveB L 0 k = true then hitAdd k (liveB L 0) (hitsR L k) else hitsR L k
/-- What the first k instructions write collides with all that is live behind them. -/
def hitsC (L : List In4) (R : Nat) : Nat → Nat → Nat → Bool
  | 0 => hitsR L R
  | k + 1 => if isWr (inAt L k).op = true then hitAdd (inAt L k).d (liveB L (k + 1)) (hitsC L R k) else hitsC L R k
def hitB (L : List In4) (R : Nat) : Nat → Nat → Bool := hitsC L R L.length

theorem hitsR_iff (L : List In4) (a b : Nat) : ∀ k, hitsR L k a b = true ↔ liveB L 0 a = true ∧ liveB L 0 b = true ∧ (a < k ∨ b < k)
  | 0 => by unfold hitsR; simp
  | k + 1 => by
    have ih := hitsR_iff L a b k
    unfold hitsR
    by_cases h : liveB L 0 k = true
    · rw [if_pos h]
      unfold hitAdd
      rw [Bool.or_eq_true, Bool.or_eq_true, Bool.and_eq_true, Bool.and_eq_true, ih, beq_iff_eq, beq_iff_eq]
      constructor
      · rintro ((⟨h1, h2, h3⟩ | ⟨h1, h2⟩) | ⟨h1, h2⟩)
        · exact ⟨h1, h2, by omega⟩
        · obtain rfl : a = k := by omega
          exact ⟨h, h2, by omega⟩
        · obtain rfl : b = k := by omega
          exact ⟨h2, h, by omega⟩
      · rintro ⟨h1, h2, h3⟩
        by_cases ea : a = k
        · exact .inl (.inr ⟨by omega, h2⟩)
        · by_cases eb : b = k
          · exact .inr ⟨by omega, h1⟩
          · exact .inl (.inl ⟨h1, h2, by omega⟩)
    · rw [if_neg h, ih]
      constructor
      · rintro ⟨h1, h2, h3⟩; exact ⟨h1, h2, by omega⟩
      · rintro ⟨h1, h2, h3⟩
        refine ⟨h1, h2, ?_⟩
        have ea : a ≠ k := fun e => h (e ▸ h1)
        have eb : b ≠ k := fun e => h (e ▸ h2)
        omega
theorem hitsC_iff (L : List In4) (R a b : Nat) : ∀ k, hitsC L R k a b = true ↔ hitsR L R a b = true ∨ ∃ i, i < k ∧ isWr (inAt L i).op = true ∧ (((inAt L i).d = (a : Int) ∧ liveB L (i + 1) b = true) ∨ ((inAt L i).d = (b : Int) ∧ liveB L (i + 1) a = true))
  | 0 => by unfold hitsC; simp
  | k + 1 => by
    have ih := hitsC_iff L R a b k
    unfold hitsC
    by_cases h : isWr (inAt L k).op = true
    · rw [if_pos h]
      unfold hitAdd
      rw [Bool.or_eq_true, Bool.or_eq_true, Bool.and_eq_true, Bool.and_eq_true, ih, beq_iff_eq, beq_iff_eq]
      constructor
      · rintro (((h1 | ⟨i, hi, h1⟩) | ⟨h1, h2⟩) | ⟨h1, h2⟩)
        · exact .inl h1
        · exact .inr ⟨i, by omega, h1⟩
        · exact .inr ⟨k, by omega, h, .inl ⟨h1.symm, h2⟩⟩
        · exact .inr ⟨k, by omega, h, .inr ⟨h1.symm, h2⟩⟩
      · rintro (h1 | ⟨i, hi, h1, h2⟩)
        · exact .inl (.inl (.inl h1))
        · by_cases e : i = k
          · subst e
            rcases h2 with ⟨h2, h3⟩ | ⟨h2, h3⟩
            · exact .inl (.inr ⟨h2.symm, h3⟩)
            · exact .inr ⟨h2.symm, h3⟩
          · exact .inl (.inl (.inr ⟨i, by omega, h1, h2⟩))
    · rw [if_neg h, ih]
      refine ⟨fun hh => or_map hh id (fun ⟨i, hi, h⟩ => ⟨i, by omega, h⟩), fun hh => or_map hh id ?_⟩
      rintro ⟨i, hi, h1, h2⟩
      refine ⟨i, ?_, h1, h2⟩
      have : i ≠ k := fun e => h (e ▸ h1)
      omega
/-- Two registers collide. -/
theorem hit_iff (L : List In4) (R : Nat) {a b : Nat} (ha : a < R) : hitB L R a b = true ↔ (liveB L 0 a = true ∧ liveB L 0 b = true) ∨ ∃ i, i < L.length ∧ isWr (inAt L i).op = true ∧ (((inAt L i).d = (a : Int) ∧ liveB L (i + 1) b = true) ∨ ((inAt L i).d = (b : Int) ∧ liveB L (i + 1) a = true)) := by
  unfold hitB
  rw [hitsC_iff, hitsR_iff]
  exact ⟨fun k => or_map k (fun h => ⟨h.1, h.2.1⟩) id, fun k => or_map k (fun h => ⟨h.1, h.2, .inl ha⟩) id⟩
theorem hit_symm (L : List In4) (R : Nat) (a b : Nat) : hitB L R a b = hitB L R b a := by
  have key : ∀ a b, hitB L R a b = true → hitB L R b a = true := fun a b h => by
    unfold hitB at *
    rw [hitsC_iff, hitsR_iff] at *
    exact or_map h (fun h => ⟨h.2.1, h.1, h.2.2.elim .inr .inl⟩) (fun ⟨i, h1, h2, h3⟩ => ⟨i, h1, h2, h3.elim .inr .inl⟩)
  cases h : hitB L R a b <;> cases h' : hitB L R b a <;> first | rfl | (exfalso; first | (have := key _ _ h; rw [h'] at this; cases this) | (have := key _ _ h'; rw [h] at this; cases this))

/-- The colours of the first s registers with which r collides. -/
def takenB (h : Nat → Nat → Bool) (c : Nat → Nat) (r : Nat) : Nat → Nat → Bool
  | 0 => fun _ => false
  | s + 1 => fun n => takenB h c r s n || (h r s && n == c s)
theorem taken_iff (h : Nat → Nat → Bool) (c : Nat → Nat) (r n : Nat) : ∀ s, takenB h c r s n = true ↔ ∃ q, q < s ∧ h r q = true ∧ c q = n
  | 0 => by unfold takenB; simp
  | s + 1 => by
    unfold takenB
    rw [Bool.or_eq_true, Bool.and_eq_true, taken_iff h c r n s, beq_iff_eq]
    constructor
    · rintro (⟨q, h1, h2⟩ | ⟨h1, h2⟩)
      · exact ⟨q, by omega, h2⟩
      · exact ⟨s, by omega, h1, h2.symm⟩
    · rintro ⟨q, h1, h2, h3⟩
      by_cases e : q = s
      · subst e; exact .inr ⟨h2, h3.symm⟩
      · exact .inl ⟨q, by omega, h2, h3⟩
/-- The first that is not taken, from n on, of m more. -/
def ffFrom (t : Nat → Bool) : Nat → Nat → Nat
  | n, 0 => n
  | n, m + 1 => if t n = true then ffFrom t (n + 1) m else n
def firstF (t : Nat → Bool) : Nat := ffFrom t 0 11
theorem ff_spec (t : Nat → Bool) : ∀ m n, (∃ q, n ≤ q ∧ q ≤ n + m ∧ t q = false) → t (ffFrom t n m) = false ∧ n ≤ ffFrom t n m ∧ ffFrom t n m ≤ n + m ∧ (∀ q, n ≤ q → q < ffFrom t n m → t q = true)
  | 0, n, ⟨q, h1, h2, h3⟩ => by
    obtain rfl : q = n := by omega
    exact ⟨h3, Nat.le_refl _, by unfold ffFrom; omega, fun p h1 h2 => by unfold ffFrom at h2; omega⟩
  | m + 1, n, ⟨q, h1, h2, h3⟩ => by
    unfold ffFrom
    by_cases h : t n = true
    · rw [if_pos h]
      have hq : q ≠ n := fun e => by subst e; rw [h] at h3; cases h3
      obtain ⟨g1, g2, g3, g4⟩ := ff_spec t m (n + 1) ⟨q, by omega, by omega, h3⟩
      refine ⟨g1, by omega, by omega, fun p hp hl => ?_⟩
      by_cases e : p = n
      · subst e; exact h
      · exact g4 p (by omega) hl
    · rw [if_neg h]
      exact ⟨by cases hq : t n; rfl; exact absurd hq h, Nat.le_refl _, by omega, fun p h1 h2 => by omega⟩
/-- The colours of the first k registers. -/
def colTo (h : Nat → Nat → Bool) : Nat → Nat → Nat
  | 0 => fun _ => 0
  | k + 1 => fun r => if r = k then firstF (takenB h (colTo h k) k k) else colTo h k r
theorem colTo_keep (h : Nat → Nat → Bool) : ∀ k r, r < k → colTo h k r = colTo h (r + 1) r
  | 0, r, hr => by omega
  | k + 1, r, hr => by
    by_cases e : r = k
    · subst e; rfl
    · show (if r = k then _ else colTo h k r) = _
      rw [if_neg e]
      exact colTo_keep h k r (by omega)
theorem colTo_past (h : Nat → Nat → Bool) : ∀ k r, k ≤ r → colTo h k r = 0
  | 0, _, _ => rfl
  | k + 1, r, hr => by
    show (if r = k then _ else colTo h k r) = _
    rw [if_neg (by omega)]
    exact colTo_past h k r (by omega)
theorem colTo_le (h : Nat → Nat → Bool) : ∀ k, k ≤ 12 → ∀ r, r < k → colTo h k r ≤ r ∧ (∀ q, q < r → h r q = true → colTo h k q ≠ colTo h k r) ∧ (∀ n, n < colTo h k r → ∃ q, q < r ∧ h r q = true ∧ colTo h k q = n)
  | 0, _, r, hr => by omega
  | k + 1, hk, r, hr => by
    have ih := colTo_le h k (by omega)
    have old : ∀ q, q < k → colTo h (k + 1) q = colTo h k q := fun q hq => by
      show (if q = k then _ else colTo h k q) = _
      rw [if_neg (by omega)]
    by_cases e : r = k
    · subst e
      have hnew : colTo h (r + 1) r = firstF (takenB h (colTo h r) r r) := by
        show (if r = r then _ else _) = _
        rw [if_pos rfl]
      have hfree : takenB h (colTo h r) r r r = false := by
        cases ht : takenB h (colTo h r) r r r with
        | false => rfl
        | true =>
          obtain ⟨q, h1, h2, h3⟩ := (taken_iff _ _ _ _ _).1 ht
          have := (ih q h1).1
          omega
      obtain ⟨g1, g2, g3, g4⟩ := ff_spec (takenB h (colTo h r) r r) 11 0 ⟨r, by omega, by omega, hfree⟩
      have hle : ffFrom (takenB h (colTo h r) r r) 0 11 ≤ r := by
        rcases Nat.lt_or_ge r (ffFrom (takenB h (colTo h r) r r) 0 11) with hl | hl
        · have := g4 r (by omega) hl; rw [hfree] at this; cases this
        · exact hl
      rw [hnew]
      unfold firstF
      refine ⟨hle, fun q hq hh => ?_, fun n hn => ?_⟩
      · rw [old q hq]
        intro e
        have : takenB h (colTo h r) r r (ffFrom (takenB h (colTo h r) r r) 0 11) = true := (taken_iff _ _ _ _ _).2 ⟨q, hq, hh, e⟩
        rw [g1] at this; cases this
      · obtain ⟨q, h1, h2, h3⟩ := (taken_iff _ _ _ _ _).1 (g4 n (by omega) hn)
        exact ⟨q, h1, h2, by rw [old q h1]; exact h3⟩
    · have hr' : r < k := by omega
      obtain ⟨g1, g2, g3⟩ := ih r hr'
      rw [old r hr']
      exact ⟨g1, fun q hq hh => by rw [old q (by omega)]; exact g2 q hq hh, fun n hn => by
        obtain ⟨q, h1, h2, h3⟩ := g3 n hn
        exact ⟨q, h1, h2, by rw [old q (by omega)]; exact h3⟩⟩
/-- The colours. -/
def colB (L : List In4) (R : Nat) : Nat → Nat := colTo (hitB L R) R
/-- How many there are. -/
def cntTo (c : Nat → Nat) : Nat → Nat
  | 0 => 0
  | k + 1 => if cntTo c k ≤ c k then c k + 1 else cntTo c k
theorem cnt_gt (c : Nat → Nat) : ∀ k r, r < k → c r < cntTo c k
  | 0, r, hr => by omega
  | k + 1, r, hr => by
    unfold cntTo
    by_cases e : r = k
    · subst e; split <;> omega
    · have := cnt_gt c k r (by omega)
      split <;> omega
theorem cnt_le (c : Nat → Nat) (m : Nat) : ∀ k, (∀ r, r < k → c r < m) → cntTo c k ≤ m
  | 0, _ => Nat.zero_le _
  | k + 1, h => by
    have h1 := cnt_le c m k (fun r hr => h r (by omega))
    have h2 := h k (by omega)
    unfold cntTo
    split <;> omega
/-- How many registers of the machine are homes. -/
def keptB (L : List In4) (R K : Nat) : Nat := if K < cntTo (colB L R) R then K - 2 else K
/-- Is a register's home a slot; which slot or which register of the machine is it? -/
def homS (L : List In4) (R K r : Nat) : Bool := decide (r < R) && decide (keptB L R K ≤ colB L R r)
def homA (L : List In4) (R K r : Nat) : Nat := if homS L R K r = true then r else colB L R r
/-- How many slots. -/
def slTo (hs : Nat → Bool) (P : Nat) : Nat → Nat
  | 0 => P
  | m + 1 => if hs (P + m) = true then P + m + 1 else slTo hs P m
def slotsB (L : List In4) (P R K : Nat) : Nat := slTo (homS L R K) P (R - P)
theorem sl_ge (hs : Nat → Bool) (P : Nat) : ∀ m, P ≤ slTo hs P m ∧ slTo hs P m ≤ P + m ∧ (∀ r, P ≤ r → r < P + m → hs r = true → r < slTo hs P m)
  | 0 => ⟨Nat.le_refl _, Nat.le_refl _, fun r h1 h2 => by omega⟩
  | m + 1 => by
    obtain ⟨h1, h2, h3⟩ := sl_ge hs P m
    unfold slTo
    by_cases h : hs (P + m) = true
    · rw [if_pos h]; exact ⟨by omega, by omega, fun r _ h2 _ => by omega⟩
    · rw [if_neg h]
      refine ⟨h1, by omega, fun r g1 g2 g3 => ?_⟩
      by_cases e : r = P + m
      · subst e; exact absurd g3 h
      · exact h3 r g1 (by omega) g3
end Go.Proofs.YtoepcplbpochpaaDoor

/-
  What the small functions of package lodge answer: isReckoning, isWriting, nextOf, reads, writes.
-/
namespace Go.Proofs.YtoepcplbpochpaaDoor
open Go.RowKit

set_option maxRecDepth 100000 in
set_option maxHeartbeats 2000000 in
theorem isRk_any (o : Int) (w : World) : Calls Tryd.prog 135 #[.int .i64 o] w fun e w' => e = .returned (.bool (isRk o)) ∧ w' = w := by
  rcases (show o < 2 ∨ (2 ≤ o ∧ o ≤ 6) ∨ (2 ≤ o ∧ 6 < o) by omega) with h | ⟨h, h'⟩ | ⟨h, h'⟩
  all_goals
    go_enter Tryd.func135, Tryd.ntmps135
    go_wp2
    go_ret
    refine ⟨ret_bool ?_, rfl⟩
    unfold isRk
    simp
    try omega

set_option maxRecDepth 100000 in
set_option maxHeartbeats 2000000 in
theorem isWr_any (o : Int) (w : World) : Calls Tryd.prog 136 #[.int .i64 o] w fun e w' => e = .returned (.bool (isWr o)) ∧ w' = w := by
  have K := hide (isRk_any o)
  by_cases h0 : o = 0
  · subst h0
    go_enter Tryd.func136, Tryd.ntmps136
    go_wp2_with (go_at_call 135; refine (unhide K _).mono ?_; rintro e w2 ⟨rfl, rfl⟩)
    go_ret
    exact ⟨ret_bool (by decide), rfl⟩
  by_cases h1 : o = 1
  · subst h1
    go_enter Tryd.func136, Tryd.ntmps136
    go_wp2_with (go_at_call 135; refine (unhide K _).mono ?_; rintro e w2 ⟨rfl, rfl⟩)
    go_ret
    exact ⟨ret_bool (by decide), rfl⟩
  have g0 : (o == 0) = false := by rw [beq_eq_false_iff_ne]; exact h0
  have g1 : (o == 1) = false := by rw [beq_eq_false_iff_ne]; exact h1
  have hw := hide (show isWr o = isRk o by unfold isWr; rw [g0, g1]; rfl)
  go_enter Tryd.func136, Tryd.ntmps136
  go_wp2_with (go_at_call 135; refine (unhide K _).mono ?_; rintro e w2 ⟨rfl, rfl⟩)
  go_ret
  exact ⟨ret_bool (unhide hw).symm, rfl⟩

/-- The four cells of an instruction that was boxed. -/
theorem box4 (w : World) (x : In4) : ∃ w2, w2 = w.alloc (.cells #[.int .i64 x.op, .int .i64 x.d, .int .i64 x.a, .int .i64 x.b] 77) ∧ At4 w2 w.heap.size 0 x ∧ Hid (Below w.heap.size w w2) ∧ w.heap.size < w2.heap.size := by
  have q : ∀ i, (w.alloc (.cells #[.int .i64 x.op, .int .i64 x.d, .int .i64 x.a, .int .i64 x.b] 77)).cell? ⟨w.heap.size, i, none⟩ = #[Value.int .i64 x.op, .int .i64 x.d, .int .i64 x.a, .int .i64 x.b][i]? := fun i => World.cell?_alloc_at (hn := rfl) ..
  exact ⟨_, rfl, ⟨(q 0).trans rfl, (q 1).trans rfl, (q 2).trans rfl, (q 3).trans rfl⟩, (Below.refl _ _).alloc (Nat.le_refl _) _, by simp⟩

set_option maxRecDepth 100000 in
set_option maxHeartbeats 2000000 in
theorem nextOf_any (x : In4) (i : Nat) (hi : i ≤ 1000) (w : World) :
    Calls Tryd.prog 121 #[.agg #[.int .i64 x.op, .int .i64 x.d, .int .i64 x.a, .int .i64 x.b], .int .i64 i] w fun e w' =>
      e = .returned (.tuple #[.int .i64 (nx1 x i), .int .i64 (nx2 x i)]) ∧ Below w.heap.size w w' := by
  obtain ⟨op, d, a, b⟩ := x
  by_cases h7 : op = 7
  · subst h7
    go_enter Tryd.func121, Tryd.ntmps121
    go_wp2
    go_ret2
    exact ⟨ret2 rfl rfl, (Below.refl _ _).alloc (Nat.le_refl _) _⟩
  by_cases h8 : op = 8
  · subst h8
    go_enter Tryd.func121, Tryd.ntmps121
    go_wp2
    go_ret2
    exact ⟨ret2 rfl (by go_num), (Below.refl _ _).alloc (Nat.le_refl _) _⟩
  by_cases h10 : op = 10
  · subst h10
    go_enter Tryd.func121, Tryd.ntmps121
    go_wp2
    go_ret2
    exact ⟨ret2 rfl rfl, (Below.refl _ _).alloc (Nat.le_refl _) _⟩
  have g7 : (op == 7) = false := by rw [beq_eq_false_iff_ne]; exact h7
  have g8 : (op == 8) = false := by rw [beq_eq_false_iff_ne]; exact h8
  have g10 : (op == 10) = false := by rw [beq_eq_false_iff_ne]; exact h10
  have e1 := hide (show nx1 ⟨op, d, a, b⟩ i = (i : Int) + 1 by unfold nx1; rw [if_neg h7, if_neg h8, if_neg h10])
  have e2 := hide (show nx2 ⟨op, d, a, b⟩ i = -1 by unfold nx2; rw [if_neg h8])
  clear h7 h8 h10
  go_enter Tryd.func121, Tryd.ntmps121
  go_wp2
  go_ret2
  exact ⟨ret2 (by rw [unhide e1]; try go_num) (by rw [unhide e2]), (Below.refl _ _).alloc (Nat.le_refl _) _⟩

set_option maxRecDepth 100000 in
set_option maxHeartbeats 4000000 in
theorem rdB_any (x : In4) (r : Int) (w : World) :
    Calls Tryd.prog 122 #[.agg #[.int .i64 x.op, .int .i64 x.d, .int .i64 x.a, .int .i64 x.b], .int .i64 r] w fun e w' => e = .returned (.bool (rdB x r)) ∧ Below w.heap.size w w' := by
  have K := hide (isRk_any x.op)
  obtain ⟨op, d, a, b⟩ := x
  simp only at K
  by_cases hs : op = 1 ∨ op = 8 ∨ op = 9 ∨ op = 10
  · have hr := hide (show rdB ⟨op, d, a, b⟩ r = (a == r) from if_pos hs)
    rcases hs with rfl | rfl | rfl | rfl
    all_goals
      go_enter Tryd.func122, Tryd.ntmps122
      go_wp2
      go_ret
      exact ⟨ret_bool (unhide hr).symm, (Below.refl _ _).alloc (Nat.le_refl _) _⟩
  have g1 : (op == 1) = false := by rw [beq_eq_false_iff_ne]; omega
  have g8 : (op == 8) = false := by rw [beq_eq_false_iff_ne]; omega
  have g9 : (op == 9) = false := by rw [beq_eq_false_iff_ne]; omega
  have g10 : (op == 10) = false := by rw [beq_eq_false_iff_ne]; omega
  have hr := hide (show rdB ⟨op, d, a, b⟩ r = (isRk op && (a == r || b == r)) from if_neg hs)
  clear hs
  obtain ⟨t, ht⟩ : ∃ t, t = isRk op := ⟨_, rfl⟩
  rw [← ht] at K hr
  clear ht
  cases t
  · go_enter Tryd.func122, Tryd.ntmps122
    go_wp2_with (go_at_call 135; refine (unhide K _).mono ?_; rintro e w2 ⟨rfl, rfl⟩)
    go_ret
    exact ⟨ret_bool (by rw [unhide hr]; rfl), (Below.refl _ _).alloc (Nat.le_refl _) _⟩
  by_cases ha : a = r
  · subst ha
    go_enter Tryd.func122, Tryd.ntmps122
    go_wp2_with (go_at_call 135; refine (unhide K _).mono ?_; rintro e w2 ⟨rfl, rfl⟩)
    go_ret
    exact ⟨ret_bool (by rw [unhide hr]; simp), (Below.refl _ _).alloc (Nat.le_refl _) _⟩
  have ga : (a == r) = false := by rw [beq_eq_false_iff_ne]; exact ha
  rw [ga] at hr
  go_enter Tryd.func122, Tryd.ntmps122
  go_wp2_with (go_at_call 135; refine (unhide K _).mono ?_; rintro e w2 ⟨rfl, rfl⟩)
  go_ret
  exact ⟨ret_bool (by rw [unhide hr]; simp), (Below.refl _ _).alloc (Nat.le_refl _) _⟩

set_option maxRecDepth 100000 in
set_option maxHeartbeats 4000000 in
theorem wrB_any (x : In4) (r : Int) (w : World) :
    Calls Tryd.prog 123 #[.agg #[.int .i64 x.op, .int .i64 x.d, .int .i64 x.a, .int .i64 x.b], .int .i64 r] w fun e w' => e = .returned (.bool (wrB x r)) ∧ Below w.heap.size w w' := by
  have K := hide (isWr_any x.op)
  obtain ⟨op, d, a, b⟩ := x
  simp only at K
  have hr := hide (show wrB ⟨op, d, a, b⟩ r = (isWr op && d == r) from rfl)
  obtain ⟨t, ht⟩ : ∃ t, t = isWr op := ⟨_, rfl⟩
  rw [← ht] at K hr
  clear ht
  cases t
  all_goals
    go_enter Tryd.func123, Tryd.ntmps123
    go_wp2_with (go_at_call 136; refine (unhide K _).mono ?_; rintro e w2 ⟨rfl, rfl⟩)
    go_ret
    exact ⟨ret_bool (by rw [unhide hr]; simp), (Below.refl _ _).alloc (Nat.le_refl _) _⟩
end Go.Proofs.YtoepcplbpochpaaDoor

/-
  Blocks of many cells, each told by its number: how they read, how they are written.
-/
namespace Go.Proofs.YtoepcplbpochpaaDoor
open Go.RowKit

/-- n cells, each told by its number. -/
def rowA (n : Nat) (c : Nat → Value) : Array Value := ((List.range n).map c).toArray
theorem rowA_size (n : Nat) (c : Nat → Value) : (rowA n c).size = n := by unfold rowA; simp
theorem rowA_at {n : Nat} (c : Nat → Value) {i : Nat} (h : i < n) : (rowA n c)[i]? = some (c i) := by
  unfold rowA; rw [List.getElem?_toArray, List.getElem?_map, List.getElem?_range h]; rfl
theorem rowA_out {n : Nat} (c : Nat → Value) {i : Nat} (h : n ≤ i) : (rowA n c)[i]? = none := by
  rw [Array.getElem?_eq_none_iff, rowA_size]; exact h
theorem rowA_ext {n : Nat} {cs : Array Value} {c : Nat → Value} (hs : cs.size = n) (h : ∀ i, i < n → cs[i]? = some (c i)) : cs = rowA n c := by
  apply Array.ext_getElem?
  intro i
  by_cases hi : i < n
  · rw [h i hi, rowA_at c hi]
  · rw [rowA_out c (by omega), Array.getElem?_eq_none_iff]; omega
theorem rowA_congr {n : Nat} {c c' : Nat → Value} (h : ∀ i, i < n → c i = c' i) : rowA n c = rowA n c' :=
  rowA_ext (rowA_size n c) (fun i hi => by rw [rowA_at c hi, h i hi])
theorem rowA_set (n : Nat) (c : Nat → Value) (i : Nat) (v : Value) : (rowA n c).setIfInBounds i v = rowA n (fun j => if j = i then v else c j) := by
  refine rowA_ext (by rw [Array.size_setIfInBounds, rowA_size]) (fun j hj => ?_)
  rw [Array.getElem?_setIfInBounds]
  by_cases e : i = j
  · subst e; rw [if_pos rfl, if_pos (by rw [rowA_size]; exact hj), if_pos rfl]
  · rw [if_neg e, if_neg (fun h => e h.symm)]; exact rowA_at c hj
theorem rowA_plain {n : Nat} {c : Nat → Value} (h : ∀ i, i < n → (c i).oneCell' = true) : (rowA n c).all (·.oneCell') = true := by
  rw [Array.all_eq_true]
  intro i hi
  have hi' : i < n := by rw [rowA_size] at hi; exact hi
  have e := rowA_at c hi'
  rw [Array.getElem?_eq_getElem hi] at e
  rw [Option.some.inj e]
  exact h i hi'

/-- The block B holds n cells. -/
def Rowd (w : World) (B T n : Nat) (c : Nat → Value) : Prop := w.heap[B]? = some (.cells (rowA n c) T (0, 0))
theorem Rowd.cell {w : World} {B T n : Nat} {c : Nat → Value} (h : Rowd w B T n c) {i : Nat} (hi : i < n) : w.cell? ⟨B, i, none⟩ = some (c i) :=
  (cell_of_row w B i _ T (0, 0) h).trans (rowA_at c hi)
theorem Rowd.lt {w : World} {B T n : Nat} {c : Nat → Value} (h : Rowd w B T n c) : B < w.heap.size := (Array.getElem?_eq_some_iff.1 h).1
theorem Rowd.free {w : World} {B T n : Nat} {c : Nat → Value} (h : Rowd w B T n c) (o : Nat) : w.frozen? ⟨B, o, none⟩ = false := by
  have h' : w.heap[B]? = some (.cells (rowA n c) T (0, 0)) := h
  simp [World.frozen?, h']
theorem Rowd.congr {w : World} {B T n : Nat} {c c' : Nat → Value} (h : Rowd w B T n c) (hc : ∀ i, i < n → c i = c' i) : Rowd w B T n c' := by
  unfold Rowd; rw [← rowA_congr hc]; exact h
theorem Rowd.set {w : World} {B T n : Nat} {c : Nat → Value} (h : Rowd w B T n c) (i : Nat) (v : Value) : Rowd (w.setCell ⟨B, i, none⟩ v) B T n (fun j => if j = i then v else c j) := by
  unfold Rowd; rw [heap_setCell_same w B i _ T v h, rowA_set]
theorem Rowd.of_block {w w' : World} {B T n : Nat} {c : Nat → Value} (h : Rowd w B T n c) (hb : w'.heap[B]? = w.heap[B]?) : Rowd w' B T n c := hb.trans h
theorem Rowd.keep {S : Nat → Prop} {w w' : World} {B T n : Nat} {c : Nat → Value} (h : Rowd w B T n c) (hk : Keep S w w') (hS : ¬ S B) : Rowd w' B T n c := h.of_block (hk.block B h.lt hS)
theorem Rowd.below {w w' : World} {B T n : Nat} {c : Nat → Value} (h : Rowd w B T n c) (hb : Below w.heap.size w w') : Rowd w' B T n c := h.of_block (hb.block B h.lt)
theorem Rowd.drew {w : World} {B T n : Nat} {c : Nat → Value} (h : Rowd w B T n c) : Rowd w.drew B T n c := h
theorem rowd_alloc (w : World) (T n : Nat) (c : Nat → Value) : Rowd (w.alloc (.cells (rowA n c) T)) w.heap.size T n c := by
  show (w.heap.push _)[w.heap.size]? = _
  simp

theorem zero108 : Tryd.zeroCells108 = rowA 480 (fun _ => .bool false) := by kernel_rfl
theorem Tryd.size108 : (Tryd.prog.info? 108).map (·.size) = some 480 := by kernel_rfl
end Go.Proofs.YtoepcplbpochpaaDoor

/-
  What the inner parts of the program's run do to its block: (*code.Run).end, (*code.Run).reckon.
-/
namespace Go.Proofs.YtoepcplbpochpaaDoor
open Go.RowKit

theorem and_mask (n : Int) : bits .and .i64 n 65535 = n % 65536 := by
  have h1 : (BitVec.ofInt 64 65535).toNat = 2 ^ 16 - 1 := by decide
  have key : (BitVec.ofInt 64 n &&& BitVec.ofInt 64 65535).toNat = (n % ((2 ^ 64 : Nat) : Int)).toNat % 2 ^ 16 := by
    rw [BitVec.toNat_and, BitVec.toNat_ofInt, h1, Nat.and_two_pow_sub_one_eq_mod]
  show IntKind.i64.wrap ((BitVec.ofInt 64 n &&& BitVec.ofInt 64 65535).toNat : Nat) = n % 65536
  rw [key, IntKind.wrap_i64]
  omega

theorem keep_set {B : Nat} {a w : World} (h : Keep (fun k => k = B) a w) (o : Nat) (u : Value) : Keep (fun k => k = B) a (w.setCell ⟨B, o, none⟩ u) := Keep.setCell (S := fun k => k = B) h (p := ⟨B, o, none⟩) rfl u
theorem StB.drew {w : World} {B : Nat} {s : St} {vo vs : Value} (h : StB w B s vo vs) : StB w.drew B s vo vs := h.of_block rfl
theorem StB.drewN {w : World} {B : Nat} {s : St} {vo vs : Value} (h : StB w B s vo vs) (n : Nat) : StB (w.drewN n) B s vo vs := h.of_block rfl
theorem StB.at_reg {w : World} {B : Nat} {s : St} {vo vs : Value} (h : StB w B s vo vs) (d : Nat) (hd : (d : Int) < 16) {z z' : Int} (hz : z = z') {s' : St} (hs : s' = s.reg d z') : StB (w.setCell ⟨B, d, none⟩ (.int .i64 z)) B s' vo vs := by
  rw [hs, ← hz]; exact h.set_reg d (by omega) z

set_option maxRecDepth 100000 in
set_option maxHeartbeats 2000000 in
theorem end_any (B : Nat) (s : St) (vo vs : Value) (k v : Int) (w : World) (h : StB w B s vo vs) :
    Calls Tryd.prog 113 #[.pointer (some ⟨B, 0, none⟩), .int .i64 k, .int .i64 v] w fun e w' =>
      e = .returned (.tuple #[]) ∧ StB w' B (s.ended k v) vo vs ∧ Keep (fun k => k = B) w w' := by
  have HS := hide h
  obtain ⟨_, _, _, h3, h4, h5, _, _, _, h9, _⟩ := h
  go_enter Tryd.func113, Tryd.ntmps113
  go_wp2
  go_returns
  exact ⟨rfl, (unhide HS).set_end k v, keep_set (keep_set (keep_set (Keep.refl _ _) _ _) _ _) _ _⟩

theorem reckon_to {s : St} {op : Int} {d a b : Nat} {x y z : Int} (hx : x = s.regs a) (hy : y = s.regs b) (h : reachE op x y = z) (h0 : 0 ≤ z) : s.reckon op d a b = s.reg d z := by
  unfold St.reckon; rw [← hx, ← hy, h, if_neg (by omega)]
theorem reckon_trap {s : St} {op : Int} {d a b : Nat} {x y : Int} (hx : x = s.regs a) (hy : y = s.regs b) (h : reachE op x y = -1) : s.reckon op d a b = s.ended 1 0 := by
  unfold St.reckon; rw [← hx, ← hy, h, if_pos (by omega)]

set_option maxRecDepth 100000 in
set_option maxHeartbeats 4000000 in
theorem reckon_any (B : Nat) (s : St) (vo vs : Value) (op : Int) (d a b : Nat) (w : World) (h : StB w B s vo vs) (ho : op = 2 ∨ op = 3 ∨ op = 4 ∨ op = 5 ∨ op = 6) (hd : (d : Int) < 16) (ha : (a : Int) < 16) (hb : (b : Int) < 16)
   (va : 0 ≤ s.regs a) (va' : s.regs a ≤ 65535) (vb : 0 ≤ s.regs b) (vb' : s.regs b ≤ 65535) :
    Calls Tryd.prog 112 #[.pointer (some ⟨B, 0, none⟩), .agg #[.int .i64 op, .int .i64 (d : Int), .int .i64 (a : Int), .int .i64 (b : Int)]] w fun e w' =>
      e = .returned (.tuple #[]) ∧ StB w' B (s.reckon op d a b) vo vs ∧ Keep (fun k => k = B) w w' := by
  have hB := h.lt
  obtain ⟨x, hx⟩ : ∃ x, x = s.regs a := ⟨_, rfl⟩
  obtain ⟨y, hy⟩ : ∃ y, y = s.regs b := ⟨_, rfl⟩
  rw [← hx] at va va'
  rw [← hy] at vb vb'
  have d0 : (0 : Int) ≤ (d : Int) := Int.natCast_nonneg _
  have a0 : (0 : Int) ≤ (a : Int) := Int.natCast_nonneg _
  have b0 : (0 : Int) ≤ (b : Int) := Int.natCast_nonneg _
  have HS := hide h
  have HX := hide hx
  have HY := hide hy
  clear h hx hy
  have HM0 : 0 ≤ x * y := Int.mul_nonneg va vb
  have HM1 : x * y ≤ 4294836225 := Int.le_trans (Int.mul_le_mul va' vb' vb (by decide)) (by decide)
  have hk : ∀ (wq : World) (j o : Nat) (z : Value), (wq.setCell ⟨B, j, none⟩ z).cell? ⟨w.heap.size, o, none⟩ = wq.cell? ⟨w.heap.size, o, none⟩ := fun wq j o z => World.cell?_setCell_other _ _ _ _ (fun e => by injection e with e1; omega)
  have hm := and_mask
  go_enter Tryd.func112, Tryd.ntmps112
  go_wp2_with fail
  obtain ⟨w1, hw1⟩ : ∃ w1, w1 = w.alloc (.cells #[.int .i64 op, .int .i64 (d : Int), .int .i64 (a : Int), .int .i64 (b : Int)] 77) := ⟨_, rfl⟩
  rw [← hw1]
  have q0 : w1.cell? ⟨w.heap.size, 0, none⟩ = some (.int .i64 op) := by rw [hw1, World.cell?_alloc_at (hn := rfl)]; rfl
  have q1 : w1.cell? ⟨w.heap.size, 1, none⟩ = some (.int .i64 (d : Int)) := by rw [hw1, World.cell?_alloc_at (hn := rfl)]; rfl
  have q2 : w1.cell? ⟨w.heap.size, 2, none⟩ = some (.int .i64 (a : Int)) := by rw [hw1, World.cell?_alloc_at (hn := rfl)]; rfl
  have q3 : w1.cell? ⟨w.heap.size, 3, none⟩ = some (.int .i64 (b : Int)) := by rw [hw1, World.cell?_alloc_at (hn := rfl)]; rfl
  have hblk : w1.heap[B]? = w.heap[B]? := by rw [hw1]; exact Below.heap_alloc _ _ _ hB
  have HS1 := hide ((unhide HS).of_block hblk)
  have ca1 : w1.cell? ⟨B, a, none⟩ = some (.int .i64 x) := by rw [unhide HX]; exact (unhide HS1).1 a (by omega)
  have cb1 : w1.cell? ⟨B, b, none⟩ = some (.int .i64 y) := by rw [unhide HY]; exact (unhide HS1).1 b (by omega)
  have cd1 : w1.cell? ⟨B, d, none⟩ = some (.int .i64 (s.regs d)) := (unhide HS1).1 d (by omega)
  have hf1 : ∀ o, w1.frozen? ⟨B, o, none⟩ = false := (unhide HS1).2.2.2.2.2.2.2.2.2.1
  have HK : Hid (Keep (fun k => k = B) w w1) := by rw [hw1]; exact (Keep.refl _ _).alloc _
  clear hw1 hblk HS
  go_region_held3 (fun w' => w'.cell? ⟨w.heap.size, 2, none⟩ = some (.int .i64 (a : Int)) ∧ w'.cell? ⟨B, a, none⟩ = some (.int .i64 x)) (simp [*]) (fail)
  go_wp2_with fail
  go_region_held3 (fun w' => w'.cell? ⟨w.heap.size, 3, none⟩ = some (.int .i64 (b : Int)) ∧ w'.cell? ⟨B, b, none⟩ = some (.int .i64 y)) (simp [*]) (fail)
  rcases ho with rfl | rfl | rfl | rfl | rfl
  · go_wp2_with fail
    go_region_held3 (fun w' => w'.cell? ⟨w.heap.size, 1, none⟩ = some (.int .i64 (d : Int))) (simp [*]) (fail)
    go_wp2_with fail
    go_returns
    refine ⟨rfl, ((((unhide HS1).at_reg d hd (z' := (x + y) % 65536) ?_ (reckon_to (unhide HX) (unhide HY) rfl ?_)).drew).drew).drew, ((keep_set (unhide HK) _ _).drew.drew).drew⟩
    · rw [IntKind.wrap_i64]; omega
    · omega
  · go_wp2_with fail
    go_region_held3 (fun w' => w'.cell? ⟨w.heap.size, 1, none⟩ = some (.int .i64 (d : Int))) (simp [*]) (fail)
    go_wp2_with fail
    go_returns
    refine ⟨rfl, ((((unhide HS1).at_reg d hd (z' := (x + 65536 - y) % 65536) ?_ (reckon_to (unhide HX) (unhide HY) rfl ?_)).drew).drew).drew, ((keep_set (unhide HK) _ _).drew.drew).drew⟩
    · rw [IntKind.wrap_i64]; omega
    · omega
  · go_wp2_with fail
    go_region_held3 (fun w' => w'.cell? ⟨w.heap.size, 1, none⟩ = some (.int .i64 (d : Int))) (simp [*]) (fail)
    go_wp2_with fail
    go_returns
    refine ⟨rfl, ((((unhide HS1).at_reg d hd (z' := x * y % 65536) ?_ (reckon_to (unhide HX) (unhide HY) rfl ?_)).drew).drew).drew, ((keep_set (unhide HK) _ _).drew.drew).drew⟩
    · rw [IntKind.wrap_i64]; omega
    · omega
  · by_cases hy0 : y = 0
    · subst hy0
      have KE := hide (fun w (h : StB w B s vo vs) => end_any B s vo vs 1 0 w h)
      go_wp2_with fail
      refine (unhide KE w1.drew.drew ((unhide HS1).drew.drew)).mono ?_
      rintro e w2 ⟨rfl, HS2, HK2⟩
      have HS3 := hide ((reckon_trap (unhide HX) (unhide HY) rfl : s.reckon 5 d a b = _) ▸ HS2)
      have HK3 := hide ((unhide HK).drew.drew.trans HK2 (fun _ _ h => h))
      clear HS2 HK2
      go_wp2_with fail
      go_returns
      exact ⟨rfl, unhide HS3, unhide HK3⟩
    · have hy1 : (y == 0) = false := by rw [beq_eq_false_iff_ne]; exact hy0
      have hy2 : 1 ≤ y := by omega
      go_wp2_with fail
      go_region_held3 (fun w' => w'.cell? ⟨w.heap.size, 1, none⟩ = some (.int .i64 (d : Int))) (simp [*]) (fail)
      go_wp2_with fail
      go_returns
      refine ⟨rfl, ((((unhide HS1).at_reg d hd (z' := x / y) ?_ (reckon_to (unhide HX) (unhide HY) ?_ ?_)).drew).drew).drew, ((keep_set (unhide HK) _ _).drew.drew).drew⟩
      · rw [Int.tdiv_eq_ediv_of_nonneg va, IntKind.wrap_i64]
        have g0 : 0 ≤ x / y := Int.ediv_nonneg va vb
        have g1 : x / y ≤ x := Int.ediv_le_self _ va
        generalize x / y = q at g0 g1 ⊢
        omega
      · show (if y = 0 then (-1 : Int) else x / y) = x / y
        rw [if_neg hy0]
      · exact Int.ediv_nonneg va vb
  · go_wp2_with fail
    go_region_held3 (fun w' => w'.cell? ⟨w.heap.size, 1, none⟩ = some (.int .i64 (d : Int))) (simp [*]) (fail)
    obtain ⟨w2, hw2⟩ : ∃ w2, w2 = (w1.setCell ⟨B, d, none⟩ (.int .i64 0)).drew.drew.drew := ⟨_, rfl⟩
    rw [← hw2]
    have HS2 : Hid (StB w2 B (s.reg d 0) vo vs) := by rw [hw2]; exact (((unhide HS1).set_reg d (by omega) 0).drew.drew).drew
    have HK2 : Hid (Keep (fun k => k = B) w w2) := by rw [hw2]; exact ((keep_set (unhide HK) _ _).drew.drew).drew
    have r1 : w2.cell? ⟨w.heap.size, 1, none⟩ = some (.int .i64 (d : Int)) := by rw [hw2]; exact (hk _ _ _ _).trans q1
    have cd2 : w2.cell? ⟨B, d, none⟩ = some (.int .i64 0) := by rw [hw2]; exact cell_put cd1
    have hf2 : ∀ o, w2.frozen? ⟨B, o, none⟩ = false := (unhide HS2).2.2.2.2.2.2.2.2.2.1
    clear hw2 hf1 cd1 cb1 ca1 q0 q1 q2 q3
    by_cases hlt : x < y
    · go_wp2_with fail
      go_region_held3 (fun w' => w'.cell? ⟨w.heap.size, 1, none⟩ = some (.int .i64 (d : Int))) (simp [*]) (fail)
      go_wp2_with fail
      go_returns
      refine ⟨rfl, ((unhide HS2).at_reg d hd (z' := 1) rfl ?_).drew, (keep_set (unhide HK2) _ _).drew⟩
      rw [reckon_to (unhide HX) (unhide HY) (show reachE 6 x y = 1 by show (if x < y then (1 : Int) else 0) = 1; rw [if_pos hlt]) (by decide)]
      unfold St.reg
      congr 1
      funext j
      unfold upd
      by_cases hj : j = d
      · rw [if_pos hj, if_pos hj]
      · rw [if_neg hj, if_neg hj]; show _ = (if j = d then 0 else s.regs j); rw [if_neg hj]
    · go_wp2_with fail
      go_returns
      exact ⟨rfl, (reckon_to (unhide HX) (unhide HY) (show reachE 6 x y = 0 by show (if x < y then (1 : Int) else 0) = 0; rw [if_neg (by omega)]) (by decide) : s.reckon 6 d a b = _) ▸ (unhide HS2), unhide HK2⟩
end Go.Proofs.YtoepcplbpochpaaDoor
