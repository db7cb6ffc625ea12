/-
  What the small functions of the document's own answer compute: lodgeref.field, reach, Fits, filled.
-/
import Derived.Test.YtoepcplbpochpaaDoorRows
import Derived.WalkKit
import Derived.WalkSpells
import Derived.WalkLawsBesides
namespace Go.Proofs.YtoepcplbpochpaaDoor
open Go.RowKit

theorem hide {p : Prop} (h : p) : Hid p := h
theorem unhide {p : Prop} (h : Hid p) : p := h
theorem ret_int {k : IntKind} {a b : Int} (h : a = b) : Ending.returned (.int k a) = .returned (.int k b) := by rw [h]
theorem ret_bool {a b : Bool} (h : a = b) : Ending.returned (.bool a) = .returned (.bool b) := by rw [h]

/-- The error of a field whose kind is the letter c. -/
def fieldE (c n r k v s : Int) : Int :=
  if c = 114 then (if n < 0 ∨ r ≤ n then 3 else 0) else
  if c = 99 then (if n < 0 ∨ 65535 < n then 4 else 0) else
  if c = 116 then (if n < 0 ∨ k ≤ n then 5 else 0) else
  if c = 115 then (if n < 0 ∨ 99 < n then 6 else 0) else
  if c = 118 then (if n < 0 ∨ v ≤ n then 7 else 0) else
  if c = 102 then (if n < 0 ∨ s ≤ n then 8 else 0) else 0

set_option maxRecDepth 100000 in
set_option maxHeartbeats 2000000 in
theorem field_any (c n r k v s : Int) (w : World) (hc : c = 114 ∨ c = 99 ∨ c = 116 ∨ c = 115 ∨ c = 118 ∨ c = 102 ∨ c = 45) :
    Calls Tryd.prog 82 #[.int .u8 c, .int .i64 n, .int .i64 r, .int .i64 k, .int .i64 v, .int .i64 s] w fun e w' => e = .returned (.int .i64 (fieldE c n r k v s)) ∧ w' = w := by
  rcases hc with rfl | rfl | rfl | rfl | rfl | rfl | rfl
  all_goals
    go_enter Tryd.func82, Tryd.ntmps82
    go_wp2
    all_goals
      go_ret
      refine ⟨ret_int ?_, rfl⟩
      unfold fieldE
      simp
      try omega

/-- What the arithmetic gives; -1: it is trapped. -/
def reachE (op a b : Int) : Int :=
  if op = 2 then (a + b) % 65536 else if op = 3 then (a + 65536 - b) % 65536 else if op = 4 then a * b % 65536 else
  if op = 5 then (if b = 0 then -1 else a / b) else if a < b then 1 else 0

set_option maxRecDepth 100000 in
set_option maxHeartbeats 2000000 in
theorem reach_any (op a b : Int) (w : World) (ho : op = 2 ∨ op = 3 ∨ op = 4 ∨ op = 5 ∨ op = 6) (ha : 0 ≤ a) (ha' : a ≤ 65535) (hb : 0 ≤ b) (hb' : b ≤ 65535) :
    Calls Tryd.prog 87 #[.int .i64 op, .int .i64 a, .int .i64 b] w fun e w' => e = .returned (.int .i64 (reachE op a b)) ∧ w' = w := by
  have hm : 0 ≤ a * b := Int.mul_nonneg ha hb
  have hm' : a * b ≤ 65535 * 65535 := Int.mul_le_mul ha' hb' hb (by decide)
  by_cases h0 : b = 0
  · subst h0
    rcases ho with rfl | rfl | rfl | rfl | rfl
    all_goals
      go_enter Tryd.func87, Tryd.ntmps87
      go_wp2
      all_goals
        go_ret
        refine ⟨ret_int ?_, rfl⟩
        unfold reachE
        simp
        try omega
  · have h1 : (b == 0) = false := by rw [beq_eq_false_iff_ne]; exact h0
    have h2 : 1 ≤ b := by omega
    rcases ho with rfl | rfl | rfl | rfl | rfl
    all_goals
      go_enter Tryd.func87, Tryd.ntmps87
      go_wp2
      all_goals
        go_ret
        refine ⟨ret_int ?_, rfl⟩
        unfold reachE
        simp [h0]
        try omega

/-- The i-th number of a list. -/
def nth (l : List Int) (i : Nat) : Int := l.getD i 0
/-- A slice of numbers that lies somewhere: nothing is asked of its address where it is empty. -/
def HeldI (w : World) (ao : Option Addr) (xs : List Int) : Prop := xs = [] ∨ ∃ b off, ao = some ⟨b, off, none⟩ ∧ b < w.heap.size ∧ ∀ i, i < xs.length → w.cell? ⟨b, off + i, none⟩ = some (.int .i64 (nth xs i))

def valueB (x : Int) : Bool := decide (0 ≤ x ∧ x ≤ 65535)
def valuesTo (xs : List Int) (k : Nat) : Bool := (List.range k).all fun i => valueB (nth xs i)
def fitsB (xs : List Int) (n : Int) : Bool := valuesTo xs xs.length && ((xs.length : Int) == n)
theorem valuesTo_succ (xs : List Int) (k : Nat) : valuesTo xs (k + 1) = (valuesTo xs k && valueB (nth xs k)) := by
  unfold valuesTo; rw [List.range_succ, List.all_append]; simp
theorem valuesTo_mono (xs : List Int) {k n : Nat} (h : k ≤ n) (hn : valuesTo xs n = true) : valuesTo xs k = true := by
  unfold valuesTo at *; rw [List.all_eq_true] at *; intro i hi; rw [List.mem_range] at hi; exact hn i (by rw [List.mem_range]; omega)

set_option maxRecDepth 100000 in
set_option maxHeartbeats 1000000 in
theorem fits_any (xs : List Int) (n : Int) (ao : Option Addr) (cap : Nat) (w : World) (hH : HeldI w ao xs) (hl : xs.length ≤ 9223372036854775807) :
    Calls Tryd.prog 51 #[.slice ao xs.length cap, .int .i64 n] w fun e w' => e = .returned (.bool (fitsB xs n)) ∧ w' = w := by
  go_enter Tryd.func51, Tryd.ntmps51
  go_wp2
  go_loop [5] (fun i => ∃ k : Nat, k ≤ xs.length ∧ i = .int .i64 k ∧ Hid (valuesTo xs k = true)) (fun i => xs.length - (intOf i).toNat)
  case atStart => exact ⟨0, Nat.zero_le _, rfl, rfl⟩
  case round =>
    obtain ⟨k, hk, rfl, HV⟩ := hrel
    by_cases hlt : k < xs.length
    · obtain ⟨b, off, rfl, hb, hc⟩ : ∃ b off, ao = some ⟨b, off, none⟩ ∧ b < w.heap.size ∧ ∀ i, i < xs.length → w.cell? ⟨b, off + i, none⟩ = some (.int .i64 (nth xs i)) := by
        rcases hH with h | h
        · subst h; exact absurd hlt (by simp)
        · exact h
      have c := hc k hlt
      by_cases hv : 0 ≤ nth xs k ∧ nth xs k ≤ 65535
      · have hn := hide (show valuesTo xs (k + 1) = true by rw [valuesTo_succ, unhide HV]; simp [valueB, hv])
        obtain ⟨v0, v1⟩ := hv
        clear hc
        go_wp2
        go_round
        case rel => exact ⟨k + 1, by omega, by go_num, unhide hn⟩
        case measure => simp [intOf]; omega
      · have hf := hide (show fitsB xs n = false by
          unfold fitsB
          cases h : valuesTo xs xs.length
          · rfl
          · have := valuesTo_mono xs (show k + 1 ≤ xs.length by omega) h
            rw [valuesTo_succ] at this; simp [valueB] at this; omega)
        clear hc
        rcases (show nth xs k < 0 ∨ (0 ≤ nth xs k ∧ 65535 < nth xs k) by omega) with h | ⟨h, h'⟩
        all_goals
          clear hv
          go_wp2
          go_ret
          exact ⟨ret_bool (unhide hf).symm, rfl⟩
    · have hk' : k = xs.length := by omega
      have hf := hide (show ((xs.length : Int) == n) = fitsB xs n by unfold fitsB; rw [← hk', unhide HV]; simp)
      clear hk'
      go_wp2
      go_ret
      exact ⟨ret_bool (unhide hf), rfl⟩
end Go.Proofs.YtoepcplbpochpaaDoor
