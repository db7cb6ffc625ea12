/-
  Plain mathematics: which registers collide, their colours, their homes.
-/
import Derived.Test.YtoepcplbpochpaaDoorUnit35
import Derived.Deep.RegionHeld3
import Derived.Handy

namespace Go.Proofs.YtoepcplbpochpaaDoor
open Go.RowKit

/-- r collides with each of a set. -/
def hitAdd (r : Int) (set : Nat → Bool) (h : Nat → Nat → Bool) : Nat → Nat → Bool := fun a b => h a b || ((a : Int) == r && set b) || ((b : Int) == r && set a)
/-- The first k registers that are live at the beginning collide with all that are. -/
def hitsR (L : List In4) : Nat → Nat → Nat → Bool
  | 0 => fun _ _ => false
  | k + 1 => if liveB L 0 k = true then hitAdd k (liveB L 0) (hitsR L k) else hitsR L k
/-- What the first k instructions write collides with all that is live behind them. -/
def hitsC (L : List In4) (R : Nat) : Nat → Nat → Nat → Bool
  | 0 => hitsR L R
  | k + 1 => if isWr (inAt L k).op = true then hitAdd (inAt L k).d (liveB L (k + 1)) (hitsC L R k) else hitsC L R k
def hitB (L : List In4) (R : Nat) : Nat → Nat → Bool := hitsC L R L.length

theorem hitsR_iff (L : List In4) (a b : Nat) : ∀ k, hitsR L k a b = true ↔ liveB L 0 a = true ∧ liveB L 0 b = true ∧ (a < k ∨ b < k)
  | 0 => by unfold hitsR; simp
  | k + 1 => by
    have ih := hitsR_iff L a b k
    unfold hitsR
    by_cases h : liveB L 0 k = true
    · rw [if_pos h]
      unfold hitAdd
      rw [Bool.or_eq_true, Bool.or_eq_true, Bool.and_eq_true, Bool.and_eq_true, ih, beq_iff_eq, beq_iff_eq]
      constructor
      · rintro ((⟨h1, h2, h3⟩ | ⟨h1, h2⟩) | ⟨h1, h2⟩)
        · exact ⟨h1, h2, by omega⟩
        · obtain rfl : a = k := by omega
          exact ⟨h, h2, by omega⟩
        · obtain rfl : b = k := by omega
          exact ⟨h2, h, by omega⟩
      · rintro ⟨h1, h2, h3⟩
        by_cases ea : a = k
        · exact .inl (.inr ⟨by omega, h2⟩)
        · by_cases eb : b = k
          · exact .inr ⟨by omega, h1⟩
          · exact .inl (.inl ⟨h1, h2, by omega⟩)
    · rw [if_neg h, ih]
      constructor
      · rintro ⟨h1, h2, h3⟩; exact ⟨h1, h2, by omega⟩
      · rintro ⟨h1, h2, h3⟩
        refine ⟨h1, h2, ?_⟩
        have ea : a ≠ k := fun e => h (e ▸ h1)
        have eb : b ≠ k := fun e => h (e ▸ h2)
        omega
theorem hitsC_iff (L : List In4) (R a b : Nat) : ∀ k, hitsC L R k a b = true ↔ hitsR L R a b = true ∨ ∃ i, i < k ∧ isWr (inAt L i).op = true ∧ (((inAt L i).d = (a : Int) ∧ liveB L (i + 1) b = true) ∨ ((inAt L i).d = (b : Int) ∧ liveB L (i + 1) a = true))
  | 0 => by unfold hitsC; simp
  | k + 1 => by
    have ih := hitsC_iff L R a b k
    unfold hitsC
    by_cases h : isWr (inAt L k).op = true
    · rw [if_pos h]
      unfold hitAdd
      rw [Bool.or_eq_true, Bool.or_eq_true, Bool.and_eq_true, Bool.and_eq_true, ih, beq_iff_eq, beq_iff_eq]
      constructor
      · rintro (((h1 | ⟨i, hi, h1⟩) | ⟨h1, h2⟩) | ⟨h1, h2⟩)
        · exact .inl h1
        · exact .inr ⟨i, by omega, h1⟩
        · exact .inr ⟨k, by omega, h, .inl ⟨h1.symm, h2⟩⟩
        · exact .inr ⟨k, by omega, h, .inr ⟨h1.symm, h2⟩⟩
      · rintro (h1 | ⟨i, hi, h1, h2⟩)
        · exact .inl (.inl (.inl h1))
        · by_cases e : i = k
          · subst e
            rcases h2 with ⟨h2, h3⟩ | ⟨h2, h3⟩
            · exact .inl (.inr ⟨h2.symm, h3⟩)
            · exact .inr ⟨h2.symm, h3⟩
          · exact .inl (.inl (.inr ⟨i, by omega, h1, h2⟩))
    · rw [if_neg h, ih]
      refine ⟨fun hh => or_map hh id (fun ⟨i, hi, h⟩ => ⟨i, by omega, h⟩), fun hh => or_map hh id ?_⟩
      rintro ⟨i, hi, h1, h2⟩
      refine ⟨i, ?_, h1, h2⟩
      have : i ≠ k := fun e => h (e ▸ h1)
      omega
/-- Two registers collide. -/
theorem hit_iff (L : List In4) (R : Nat) {a b : Nat} (ha : a < R) : hitB L R a b = true ↔ (liveB L 0 a = true ∧ liveB L 0 b = true) ∨ ∃ i, i < L.length ∧ isWr (inAt L i).op = true ∧ (((inAt L i).d = (a : Int) ∧ liveB L (i + 1) b = true) ∨ ((inAt L i).d = (b : Int) ∧ liveB L (i + 1) a = true)) := by
  unfold hitB
  rw [hitsC_iff, hitsR_iff]
  exact ⟨fun k => or_map k (fun h => ⟨h.1, h.2.1⟩) id, fun k => or_map k (fun h => ⟨h.1, h.2, .inl ha⟩) id⟩
theorem hit_symm (L : List In4) (R : Nat) (a b : Nat) : hitB L R a b = hitB L R b a := by
  have key : ∀ a b, hitB L R a b = true → hitB L R b a = true := fun a b h => by
    unfold hitB at *
    rw [hitsC_iff, hitsR_iff] at *
    exact or_map h (fun h => ⟨h.2.1, h.1, h.2.2.elim .inr .inl⟩) (fun ⟨i, h1, h2, h3⟩ => ⟨i, h1, h2, h3.elim .inr .inl⟩)
  cases h : hitB L R a b <;> cases h' : hitB L R b a <;> first | rfl | (exfalso; first | (have := key _ _ h; rw [h'] at this; cases this) | (have := key _ _ h'; rw [h] at this; cases this))

/-- The colours of the first s registers with which r collides. -/
def takenB (h : Nat → Nat → Bool) (c : Nat → Nat) (r : Nat) : Nat → Nat → Bool
  | 0 => fun _ => false
  | s + 1 => fun n => takenB h c r s n || (h r s && n == c s)
theorem taken_iff (h : Nat → Nat → Bool) (c : Nat → Nat) (r n : Nat) : ∀ s, takenB h c r s n = true ↔ ∃ q, q < s ∧ h r q = true ∧ c q = n
  | 0 => by unfold takenB; simp
  | s + 1 => by
    unfold takenB
    rw [Bool.or_eq_true, Bool.and_eq_true, taken_iff h c r n s, beq_iff_eq]
    constructor
    · rintro (⟨q, h1, h2⟩ | ⟨h1, h2⟩)
      · exact ⟨q, by omega, h2⟩
      · exact ⟨s, by omega, h1, h2.symm⟩
    · rintro ⟨q, h1, h2, h3⟩
      by_cases e : q = s
      · subst e; exact .inr ⟨h2, h3.symm⟩
      · exact .inl ⟨q, by omega, h2, h3⟩
/-- The first that is not taken, from n on, of m more. -/
def ffFrom (t : Nat → Bool) : Nat → Nat → Nat
  | n, 0 => n
  | n, m + 1 => if t n = true then ffFrom t (n + 1) m else n
def firstF (t : Nat → Bool) : Nat := ffFrom t 0 11
theorem ff_spec (t : Nat → Bool) : ∀ m n, (∃ q, n ≤ q ∧ q ≤ n + m ∧ t q = false) → t (ffFrom t n m) = false ∧ n ≤ ffFrom t n m ∧ ffFrom t n m ≤ n + m ∧ (∀ q, n ≤ q → q < ffFrom t n m → t q = true)
  | 0, n, ⟨q, h1, h2, h3⟩ => by
    obtain rfl : q = n := by omega
    exact ⟨h3, Nat.le_refl _, by unfold ffFrom; omega, fun p h1 h2 => by unfold ffFrom at h2; omega⟩
  | m + 1, n, ⟨q, h1, h2, h3⟩ => by
    unfold ffFrom
    by_cases h : t n = true
    · rw [if_pos h]
      have hq : q ≠ n := fun e => by subst e; rw [h] at h3; cases h3
      obtain ⟨g1, g2, g3, g4⟩ := ff_spec t m (n + 1) ⟨q, by omega, by omega, h3⟩
      refine ⟨g1, by omega, by omega, fun p hp hl => ?_⟩
      by_cases e : p = n
      · subst e; exact h
      · exact g4 p (by omega) hl
    · rw [if_neg h]
      exact ⟨by cases hq : t n; rfl; exact absurd hq h, Nat.le_refl _, by omega, fun p h1 h2 => by omega⟩
/-- The colours of the first k registers. -/
def colTo (h : Nat → Nat → Bool) : Nat → Nat → Nat
  | 0 => fun _ => 0
  | k + 1 => fun r => if r = k then firstF (takenB h (colTo h k) k k) else colTo h k r
theorem colTo_keep (h : Nat → Nat → Bool) : ∀ k r, r < k → colTo h k r = colTo h (r + 1) r
  | 0, r, hr => by omega
  | k + 1, r, hr => by
    by_cases e : r = k
    · subst e; rfl
    · show (if r = k then _ else colTo h k r) = _
      rw [if_neg e]
      exact colTo_keep h k r (by omega)
theorem colTo_past (h : Nat → Nat → Bool) : ∀ k r, k ≤ r → colTo h k r = 0
  | 0, _, _ => rfl
  | k + 1, r, hr => by
    show (if r = k then _ else colTo h k r) = _
    rw [if_neg (by omega)]
    exact colTo_past h k r (by omega)
theorem colTo_le (h : Nat → Nat → Bool) : ∀ k, k ≤ 12 → ∀ r, r < k → colTo h k r ≤ r ∧ (∀ q, q < r → h r q = true → colTo h k q ≠ colTo h k r) ∧ (∀ n, n < colTo h k r → ∃ q, q < r ∧ h r q = true ∧ colTo h k q = n)
  | 0, _, r, hr => by omega
  | k + 1, hk, r, hr => by
    have ih := colTo_le h k (by omega)
    have old : ∀ q, q < k → colTo h (k + 1) q = colTo h k q := fun q hq => by
      show (if q = k then _ else colTo h k q) = _
      rw [if_neg (by omega)]
    by_cases e : r = k
    · subst e
      have hnew : colTo h (r + 1) r = firstF (takenB h (colTo h r) r r) := by
        show (if r = r then _ else _) = _
        rw [if_pos rfl]
      have hfree : takenB h (colTo h r) r r r = false := by
        cases ht : takenB h (colTo h r) r r r with
        | false => rfl
        | true =>
          obtain ⟨q, h1, h2, h3⟩ := (taken_iff _ _ _ _ _).1 ht
          have := (ih q h1).1
          omega
      obtain ⟨g1, g2, g3, g4⟩ := ff_spec (takenB h (colTo h r) r r) 11 0 ⟨r, by omega, by omega, hfree⟩
      have hle : ffFrom (takenB h (colTo h r) r r) 0 11 ≤ r := by
        rcases Nat.lt_or_ge r (ffFrom (takenB h (colTo h r) r r) 0 11) with hl | hl
        · have := g4 r (by omega) hl; rw [hfree] at this; cases this
        · exact hl
      rw [hnew]
      unfold firstF
      refine ⟨hle, fun q hq hh => ?_, fun n hn => ?_⟩
      · rw [old q hq]
        intro e
        have : takenB h (colTo h r) r r (ffFrom (takenB h (colTo h r) r r) 0 11) = true := (taken_iff _ _ _ _ _).2 ⟨q, hq, hh, e⟩
        rw [g1] at this; cases this
      · obtain ⟨q, h1, h2, h3⟩ := (taken_iff _ _ _ _ _).1 (g4 n (by omega) hn)
        exact ⟨q, h1, h2, by rw [old q h1]; exact h3⟩
    · have hr' : r < k := by omega
      obtain ⟨g1, g2, g3⟩ := ih r hr'
      rw [old r hr']
      exact ⟨g1, fun q hq hh => by rw [old q (by omega)]; exact g2 q hq hh, fun n hn => by
        obtain ⟨q, h1, h2, h3⟩ := g3 n hn
        exact ⟨q, h1, h2, by rw [old q (by omega)]; exact h3⟩⟩
/-- The colours. -/
def colB (L : List In4) (R : Nat) : Nat → Nat := colTo (hitB L R) R
/-- How many there are. -/
def cntTo (c : Nat → Nat) : Nat → Nat
  | 0 => 0
  | k + 1 => if cntTo c k ≤ c k then c k + 1 else cntTo c k
theorem cnt_gt (c : Nat → Nat) : ∀ k r, r < k → c r < cntTo c k
  | 0, r, hr => by omega
  | k + 1, r, hr => by
    unfold cntTo
    by_cases e : r = k
    · subst e; split <;> omega
    · have := cnt_gt c k r (by omega)
      split <;> omega
theorem cnt_le (c : Nat → Nat) (m : Nat) : ∀ k, (∀ r, r < k → c r < m) → cntTo c k ≤ m
  | 0, _ => Nat.zero_le _
  | k + 1, h => by
    have h1 := cnt_le c m k (fun r hr => h r (by omega))
    have h2 := h k (by omega)
    unfold cntTo
    split <;> omega
/-- How many registers of the machine are homes. -/
def keptB (L : List In4) (R K : Nat) : Nat := if K < cntTo (colB L R) R then K - 2 else K
/-- Is a register's home a slot; which slot or which register of the machine is it? -/
def homS (L : List In4) (R K r : Nat) : Bool := decide (r < R) && decide (keptB L R K ≤ colB L R r)
def homA (L : List In4) (R K r : Nat) : Nat := if homS L R K r = true then r else colB L R r
/-- How many slots. -/
def slTo (hs : Nat → Bool) (P : Nat) : Nat → Nat
  | 0 => P
  | m + 1 => if hs (P + m) = true then P + m + 1 else slTo hs P m
def slotsB (L : List In4) (P R K : Nat) : Nat := slTo (homS L R K) P (R - P)
theorem sl_ge (hs : Nat → Bool) (P : Nat) : ∀ m, P ≤ slTo hs P m ∧ slTo hs P m ≤ P + m ∧ (∀ r, P ≤ r → r < P + m → hs r = true → r < slTo hs P m)
  | 0 => ⟨Nat.le_refl _, Nat.le_refl _, fun r h1 h2 => by omega⟩
  | m + 1 => by
    obtain ⟨h1, h2, h3⟩ := sl_ge hs P m
    unfold slTo
    by_cases h : hs (P + m) = true
    · rw [if_pos h]; exact ⟨by omega, by omega, fun r _ h2 _ => by omega⟩
    · rw [if_neg h]
      refine ⟨h1, by omega, fun r g1 g2 g3 => ?_⟩
      by_cases e : r = P + m
      · subst e; exact absurd g3 h
      · exact h3 r g1 (by omega) g3
end Go.Proofs.YtoepcplbpochpaaDoor

/-
  What the small functions of package lodge answer: isReckoning, isWriting, nextOf, reads, writes.
-/
namespace Go.Proofs.YtoepcplbpochpaaDoor
open Go.RowKit

set_option maxRecDepth 100000 in
set_option maxHeartbeats 2000000 in
theorem isRk_any (o : Int) (w : World) : Calls Tryd.prog 135 #[.int .i64 o] w fun e w' => e = .returned (.bool (isRk o)) ∧ w' = w := by
  rcases (show o < 2 ∨ (2 ≤ o ∧ o ≤ 6) ∨ (2 ≤ o ∧ 6 < o) by omega) with h | ⟨h, h'⟩ | ⟨h, h'⟩
  all_goals
    go_enter Tryd.func135, Tryd.ntmps135
    go_wp2
    go_ret
    refine ⟨ret_bool ?_, rfl⟩
    unfold isRk
    simp
    try omega

set_option maxRecDepth 100000 in
set_option maxHeartbeats 2000000 in
theorem isWr_any (o : Int) (w : World) : Calls Tryd.prog 136 #[.int .i64 o] w fun e w' => e = .returned (.bool (isWr o)) ∧ w' = w := by
  have K := hide (isRk_any o)
  by_cases h0 : o = 0
  · subst h0
    go_enter Tryd.func136, Tryd.ntmps136
    go_wp2_with (go_at_call 135; refine (unhide K _).mono ?_; rintro e w2 ⟨rfl, rfl⟩)
    go_ret
    exact ⟨ret_bool (by decide), rfl⟩
  by_cases h1 : o = 1
  · subst h1
    go_enter Tryd.func136, Tryd.ntmps136
    go_wp2_with (go_at_call 135; refine (unhide K _).mono ?_; rintro e w2 ⟨rfl, rfl⟩)
    go_ret
    exact ⟨ret_bool (by decide), rfl⟩
  have g0 : (o == 0) = false := by rw [beq_eq_false_iff_ne]; exact h0
  have g1 : (o == 1) = false := by rw [beq_eq_false_iff_ne]; exact h1
  have hw := hide (show isWr o = isRk o by unfold isWr; rw [g0, g1]; rfl)
  go_enter Tryd.func136, Tryd.ntmps136
  go_wp2_with (go_at_call 135; refine (unhide K _).mono ?_; rintro e w2 ⟨rfl, rfl⟩)
  go_ret
  exact ⟨ret_bool (unhide hw).symm, rfl⟩

/-- The four cells of an instruction that was boxed. -/
theorem box4 (w : World) (x : In4) : ∃ w2, w2 = w.alloc (.cells #[.int .i64 x.op, .int .i64 x.d, .int .i64 x.a, .int .i64 x.b] 77) ∧ At4 w2 w.heap.size 0 x ∧ Hid (Below w.heap.size w w2) ∧ w.heap.size < w2.heap.size := by
  have q : ∀ i, (w.alloc (.cells #[.int .i64 x.op, .int .i64 x.d, .int .i64 x.a, .int .i64 x.b] 77)).cell? ⟨w.heap.size, i, none⟩ = #[Value.int .i64 x.op, .int .i64 x.d, .int .i64 x.a, .int .i64 x.b][i]? := fun i => World.cell?_alloc_at (hn := rfl) ..
  exact ⟨_, rfl, ⟨(q 0).trans rfl, (q 1).trans rfl, (q 2).trans rfl, (q 3).trans rfl⟩, (Below.refl _ _).alloc (Nat.le_refl _) _, by simp⟩

set_option maxRecDepth 100000 in
set_option maxHeartbeats 2000000 in
theorem nextOf_any (x : In4) (i : Nat) (hi : i ≤ 1000) (w : World) :
    Calls Tryd.prog 121 #[.agg #[.int .i64 x.op, .int .i64 x.d, .int .i64 x.a, .int .i64 x.b], .int .i64 i] w fun e w' =>
      e = .returned (.tuple #[.int .i64 (nx1 x i), .int .i64 (nx2 x i)]) ∧ Below w.heap.size w w' := by
  obtain ⟨op, d, a, b⟩ := x
  by_cases h7 : op = 7
  · subst h7
    go_enter Tryd.func121, Tryd.ntmps121
    go_wp2
    go_ret2
    exact ⟨ret2 rfl rfl, (Below.refl _ _).alloc (Nat.le_refl _) _⟩
  by_cases h8 : op = 8
  · subst h8
    go_enter Tryd.func121, Tryd.ntmps121
    go_wp2
    go_ret2
    exact ⟨ret2 rfl (by go_num), (Below.refl _ _).alloc (Nat.le_refl _) _⟩
  by_cases h10 : op = 10
  · subst h10
    go_enter Tryd.func121, Tryd.ntmps121
    go_wp2
    go_ret2
    exact ⟨ret2 rfl rfl, (Below.refl _ _).alloc (Nat.le_refl _) _⟩
  have g7 : (op == 7) = false := by rw [beq_eq_false_iff_ne]; exact h7
  have g8 : (op == 8) = false := by rw [beq_eq_false_iff_ne]; exact h8
  have g10 : (op == 10) = false := by rw [beq_eq_false_iff_ne]; exact h10
  have e1 := hide (show nx1 ⟨op, d, a, b⟩ i = (i : Int) + 1 by unfold nx1; rw [if_neg h7, if_neg h8, if_neg h10])
  have e2 := hide (show nx2 ⟨op, d, a, b⟩ i = -1 by unfold nx2; rw [if_neg h8])
  clear h7 h8 h10
  go_enter Tryd.func121, Tryd.ntmps121
  go_wp2
  go_ret2
  exact ⟨ret2 (by rw [unhide e1]; try go_num) (by rw [unhide e2]), (Below.refl _ _).alloc (Nat.le_refl _) _⟩

set_option maxRecDepth 100000 in
set_option maxHeartbeats 4000000 in
theorem rdB_any (x : In4) (r : Int) (w : World) :
    Calls Tryd.prog 122 #[.agg #[.int .i64 x.op, .int .i64 x.d, .int .i64 x.a, .int .i64 x.b], .int .i64 r] w fun e w' => e = .returned (.bool (rdB x r)) ∧ Below w.heap.size w w' := by
  have K := hide (isRk_any x.op)
  obtain ⟨op, d, a, b⟩ := x
  simp only at K
  by_cases hs : op = 1 ∨ op = 8 ∨ op = 9 ∨ op = 10
  · have hr := hide (show rdB ⟨op, d, a, b⟩ r = (a == r) from if_pos hs)
    rcases hs with rfl | rfl | rfl | rfl
    all_goals
      go_enter Tryd.func122, Tryd.ntmps122
      go_wp2
      go_ret
      exact ⟨ret_bool (unhide hr).symm, (Below.refl _ _).alloc (Nat.le_refl _) _⟩
  have g1 : (op == 1) = false := by rw [beq_eq_false_iff_ne]; omega
  have g8 : (op == 8) = false := by rw [beq_eq_false_iff_ne]; omega
  have g9 : (op == 9) = false := by rw [beq_eq_false_iff_ne]; omega
  have g10 : (op == 10) = false := by rw [beq_eq_false_iff_ne]; omega
  have hr := hide (show rdB ⟨op, d, a, b⟩ r = (isRk op && (a == r || b == r)) from if_neg hs)
  clear hs
  obtain ⟨t, ht⟩ : ∃ t, t = isRk op := ⟨_, rfl⟩
  rw [← ht] at K hr
  clear ht
  cases t
  · go_enter Tryd.func122, Tryd.ntmps122
    go_wp2_with (go_at_call 135; refine (unhide K _).mono ?_; rintro e w2 ⟨rfl, rfl⟩)
    go_ret
    exact ⟨ret_bool (by rw [unhide hr]; rfl), (Below.refl _ _).alloc (Nat.le_refl _) _⟩
  by_cases ha : a = r
  · subst ha
    go_enter Tryd.func122, Tryd.ntmps122
    go_wp2_with (go_at_call 135; refine (unhide K _).mono ?_; rintro e w2 ⟨rfl, rfl⟩)
    go_ret
    exact ⟨ret_bool (by rw [unhide hr]; simp), (Below.refl _ _).alloc (Nat.le_refl _) _⟩
  have ga : (a == r) = false := by rw [beq_eq_false_iff_ne]; exact ha
  rw [ga] at hr
  go_enter Tryd.func122, Tryd.ntmps122
  go_wp2_with (go_at_call 135; refine (unhide K _).mono ?_; rintro e w2 ⟨rfl, rfl⟩)
  go_ret
  exact ⟨ret_bool (by rw [unhide hr]; simp), (Below.refl _ _).alloc (Nat.le_refl _) _⟩

set_option maxRecDepth 100000 in
set_option maxHeartbeats 4000000 in
theorem wrB_any (x : In4) (r : Int) (w : World) :
    Calls Tryd.prog 123 #[.agg #[.int .i64 x.op, .int .i64 x.d, .int .i64 x.a, .int .i64 x.b], .int .i64 r] w fun e w' => e = .returned (.bool (wrB x r)) ∧ Below w.heap.size w w' := by
  have K := hide (isWr_any x.op)
  obtain ⟨op, d, a, b⟩ := x
  simp only at K
  have hr := hide (show wrB ⟨op, d, a, b⟩ r = (isWr op && d == r) from rfl)
  obtain ⟨t, ht⟩ : ∃ t, t = isWr op := ⟨_, rfl⟩
  rw [← ht] at K hr
  clear ht
  cases t
  all_goals
    go_enter Tryd.func123, Tryd.ntmps123
    go_wp2_with (go_at_call 136; refine (unhide K _).mono ?_; rintro e w2 ⟨rfl, rfl⟩)
    go_ret
    exact ⟨ret_bool (by rw [unhide hr]; simp), (Below.refl _ _).alloc (Nat.le_refl _) _⟩
end Go.Proofs.YtoepcplbpochpaaDoor
