/-
  What the small functions of the document's own answer compute: lodgeref.field, reach, Fits, filled.
-/
import Derived.Test.YtoepcplbpochpaaDoorRows
import Derived.WalkKit
import Derived.WalkSpells
import Derived.WalkLawsBesides

namespace Go.Proofs.YtoepcplbpochpaaDoor
open Go.RowKit

theorem hide {p : Prop} (h : p) : Hid p := h
theorem unhide {p : Prop} (h : Hid p) : p := h
theorem ret_int {k : IntKind} {a b : Int} (h : a = b) : Ending.returned (.int k a) = .returned (.int k b) := by rw [h]
theorem ret_bool {a b : Bool} (h : a = b) : Ending.returned (.bool a) = .returned (.bool b) := by rw [h]

/-- The error of a field whose kind is the letter c. -/
def fieldE (c n r k v s : Int) : Int :=
  if c = 114 then (if n < 0 ∨ r ≤ n then 3 else 0) else
  if c = 99 then (if n < 0 ∨ 65535 < n then 4 else 0) else
  if c = 116 then (if n < 0 ∨ k ≤ n then 5 else 0) else
  if c = 115 then (if n < 0 ∨ 99 < n then 6 else 0) else
  if c = 118 then (if n < 0 ∨ v ≤ n then 7 else 0) else
  if c = 102 then (if n < 0 ∨ s ≤ n then 8 else 0) else 0

set_option maxRecDepth 100000 in
set_option maxHeartbeats 2000000 in
theorem field_any (c n r k v s : Int) (w : World) (hc : c = 114 ∨ c = 99 ∨ c = 116 ∨ c = 115 ∨ c = 118 ∨ c = 102 ∨ c = 45) :
    Calls Tryd.prog 82 #[.int .u8 c, .int .i64 n, .int .i64 r, .int .i64 k, .int .i64 v, .int .i64 s] w fun e w' => e = .returned (.int .i64 (fieldE c n r k v s)) ∧ w' = w := by
  rcases hc with rfl | rfl | rfl | rfl | rfl | rfl | rfl
  all_goals
    go_enter Tryd.func82, Tryd.ntmps82
    go_wp2
    all_goals
      go_ret
      refine ⟨ret_int ?_, rfl⟩
      unfold fieldE
      simp
      try omega

/-- What the arithmetic gives; -1: it is trapped. -/
def reachE (op a b : Int) : Int :=
  if op = 2 then (a + b) % 65536 else if op = 3 then (a + 65536 - b) % 65536 else if op = 4 then a * b % 65536 else
  if op = 5 then (if b = 0 then -1 else a / b) else if a < b then 1 else 0

set_option maxRecDepth 100000 in
set_option maxHeartbeats 2000000 in
theorem reach_any (op a b : Int) (w : World) (ho : op = 2 ∨ op = 3 ∨ op = 4 ∨ op = 5 ∨ op = 6) (ha : 0 ≤ a) (ha' : a ≤ 65535) (hb : 0 ≤ b) (hb' : b ≤ 65535) :
    Calls Tryd.prog 87 #[.int .i64 op, .int .i64 a, .int .i64 b] w fun e w' => e = .returned (.int .i64 (reachE op a b)) ∧ w' = w := by
  have hm : 0 ≤ a * b := Int.mul_nonneg ha hb
  have hm' : a * b ≤ 65535 * 65535 := Int.mul_le_mul ha' hb' hb (by decide)
  by_cases h0 : b = 0
  · subst h0
    rcases ho with rfl | rfl | rfl | rfl | rfl
    all_goals
      go_enter Tryd.func87, Tryd.ntmps87
      go_wp2
      all_goals
        go_ret
        refine ⟨ret_int ?_, rfl⟩
        unfold reachE
        simp
        try omega
  · have h1 : (b == 0) = false := by rw [beq_eq_false_iff_ne]; exact h0
    have h2 : 1 ≤ b := by omega
    rcases ho with rfl | rfl | rfl | rfl | rfl
    all_goals
      go_enter Tryd.func87, Tryd.ntmps87
      go_wp2
      all_goals
        go_ret
        refine ⟨ret_int ?_, rfl⟩
        unfold reachE
        simp [h0]
        try omega

/-- The i-th number of a list. -/
def nth (l : List Int) (i : Nat) : Int := l.getD i 0
/-- A slice of numbers that lies somewhere: nothing is asked of its address where it is empty. -/
def HeldI (w : World) (ao : Option Addr) (xs : List Int) : Prop := xs = [] ∨ ∃ b off, ao = some ⟨b, off, none⟩ ∧ b < w.heap.size ∧ ∀ i, i < xs.length → w.cell? ⟨b, off + i, none⟩ = some (.int .i64 (nth xs i))

def valueB (x : Int) : Bool := decide (0 ≤ x ∧ x ≤ 65535)
def valuesTo (xs : List Int) (k : Nat) : Bool := (List.range k).all fun i => valueB (nth xs i)
def fitsB (xs : List Int) (n : Int) : Bool := valuesTo xs xs.length && ((xs.length : Int) == n)
theorem valuesTo_succ (xs : List Int) (k : Nat) : valuesTo xs (k + 1) = (valuesTo xs k && valueB (nth xs k)) := by
  unfold valuesTo; rw [List.range_succ, List.all_append]; simp
theorem valuesTo_mono (xs : List Int) {k n : Nat} (h : k ≤ n) (hn : valuesTo xs n = true) : valuesTo xs k = true := by
  unfold valuesTo at *; rw [List.all_eq_true] at *; intro i hi; rw [List.mem_range] at hi; exact hn i (by rw [List.mem_range]; omega)

set_option maxRecDepth 100000 in
set_option maxHeartbeats 1000000 in
theorem fits_any (xs : List Int) (n : Int) (ao : Option Addr) (cap : Nat) (w : World) (hH : HeldI w ao xs) (hl : xs.length ≤ 9223372036854775807) :
    Calls Tryd.prog 51 #[.slice ao xs.length cap, .int .i64 n] w fun e w' => e = .returned (.bool (fitsB xs n)) ∧ w' = w := by
  go_enter Tryd.func51, Tryd.ntmps51
  go_wp2
  go_loop [5] (fun i => ∃ k : Nat, k ≤ xs.length ∧ i = .int .i64 k ∧ Hid (valuesTo xs k = true)) (fun i => xs.length - (intOf i).toNat)
  case atStart => exact ⟨0, Nat.zero_le _, rfl, rfl⟩
  case round =>
    obtain ⟨k, hk, rfl, HV⟩ := hrel
    by_cases hlt : k < xs.length
    · obtain ⟨b, off, rfl, hb, hc⟩ : ∃ b off, ao = some ⟨b, off, none⟩ ∧ b < w.heap.size ∧ ∀ i, i < xs.length → w.cell? ⟨b, off + i, none⟩ = some (.int .i64 (nth xs i)) := by
        rcases hH with h | h
        · subst h; exact absurd hlt (by simp)
        · exact h
      have c := hc k hlt
      by_cases hv : 0 ≤ nth xs k ∧ nth xs k ≤ 65535
      · have hn := hide (show valuesTo xs (k + 1) = true by rw [valuesTo_succ, unhide HV]; simp [valueB, hv])
        obtain ⟨v0, v1⟩ := hv
        clear hc
        go_wp2
        go_round
        case rel => exact ⟨k + 1, by omega, by go_num, unhide hn⟩
        case measure => simp [intOf]; omega
      · have hf := hide (show fitsB xs n = false by
          unfold fitsB
          cases h : valuesTo xs xs.length
          · rfl
          · have := valuesTo_mono xs (show k + 1 ≤ xs.length by omega) h
            rw [valuesTo_succ] at this; simp [valueB] at this; omega)
        clear hc
        rcases (show nth xs k < 0 ∨ (0 ≤ nth xs k ∧ 65535 < nth xs k) by omega) with h | ⟨h, h'⟩
        all_goals
          clear hv
          go_wp2
          go_ret
          exact ⟨ret_bool (unhide hf).symm, rfl⟩
    · have hk' : k = xs.length := by omega
      have hf := hide (show ((xs.length : Int) == n) = fitsB xs n by unfold fitsB; rw [← hk', unhide HV]; simp)
      clear hk'
      go_wp2
      go_ret
      exact ⟨ret_bool (unhide hf), rfl⟩
end Go.Proofs.YtoepcplbpochpaaDoor

/-
  Programs as plain data: instructions, the error of a field, of an instruction, of a program, and its place.
-/
namespace Go.Proofs.YtoepcplbpochpaaDoor
open Go.RowKit

/-- The fields of an Op, as letters. -/
def formL : List (List UInt8) := [[114, 99, 45], [114, 114, 45], [114, 114, 114], [114, 114, 114], [114, 114, 114], [114, 114, 114], [114, 114, 114], [45, 116, 45], [45, 114, 116], [45, 114, 45], [45, 114, 45], [45, 115, 45], [118, 114, 45], [118, 99, 45], [118, 45, 45], [114, 102, 45], [102, 114, 45]]
def formS (k : Nat) : ByteArray := ⟨(formL.getD k []).toArray⟩

/-- Is the Op one of a program's (p) or of a unit's? -/
def opB (p : Bool) (k : Nat) : Bool := decide (k < 12) || (decide (k < 17) && (decide (11 < k ∧ k < 15) == p))
def opsA (p : Bool) : Array Value := ((List.range 17).map fun k => Value.bool (opB p k)).toArray

/-- An instruction. -/
structure In4 where
  op : Int
  d : Int
  a : Int
  b : Int
def inAt (L : List In4) (i : Nat) : In4 := L.getD i ⟨0, 0, 0, 0⟩
def At4 (w : World) (b o : Nat) (x : In4) : Prop :=
  w.cell? ⟨b, o, none⟩ = some (.int .i64 x.op) ∧ w.cell? ⟨b, o + 1, none⟩ = some (.int .i64 x.d) ∧ w.cell? ⟨b, o + 2, none⟩ = some (.int .i64 x.a) ∧ w.cell? ⟨b, o + 3, none⟩ = some (.int .i64 x.b)
def LieI (w : World) (b off : Nat) (L : List In4) : Prop := ∀ i, i < L.length → At4 w b (off + i * 4) (inAt L i)
theorem At4.below {w w' : World} {B b o : Nat} {x : In4} (h : At4 w b o x) (hb : Below B w w') (hB : b < B) : At4 w' b o x :=
  ⟨(hb.cell hB).trans h.1, (hb.cell hB).trans h.2.1, (hb.cell hB).trans h.2.2.1, (hb.cell hB).trans h.2.2.2⟩

/-- The letter of a field. -/
def letterAt (k j : Nat) : Int := (((formL.getD k []).getD j 0).toNat : Int)
def Letter (c : Int) : Prop := c = 114 ∨ c = 99 ∨ c = 116 ∨ c = 115 ∨ c = 118 ∨ c = 102 ∨ c = 45

theorem form_abc (k : Nat) (hk : k < 17) : ∃ a b c : UInt8, formS k = ⟨#[a, b, c]⟩ ∧ (a.toNat : Int) = letterAt k 0 ∧ (b.toNat : Int) = letterAt k 1 ∧ (c.toNat : Int) = letterAt k 2 ∧ Letter (letterAt k 0) ∧ Letter (letterAt k 1) ∧ Letter (letterAt k 2) := by
  rcases (show k = 0 ∨ k = 1 ∨ k = 2 ∨ k = 3 ∨ k = 4 ∨ k = 5 ∨ k = 6 ∨ k = 7 ∨ k = 8 ∨ k = 9 ∨ k = 10 ∨ k = 11 ∨ k = 12 ∨ k = 13 ∨ k = 14 ∨ k = 15 ∨ k = 16 by omega) with rfl | rfl | rfl | rfl | rfl | rfl | rfl | rfl | rfl | rfl | rfl | rfl | rfl | rfl | rfl | rfl | rfl
  all_goals exact ⟨_, _, _, rfl, rfl, rfl, rfl, by unfold Letter letterAt; decide, by unfold Letter letterAt; decide, by unfold Letter letterAt; decide⟩

theorem fieldE_nonneg (c n r k v s : Int) : 0 ≤ fieldE c n r k v s := by
  unfold fieldE
  repeat' split
  all_goals decide

/-- The error of an instruction. -/
def insE (p : Bool) (x : In4) (r n v s : Int) : Int :=
  if ¬ (0 ≤ x.op ∧ x.op < 17 ∧ opB p x.op.toNat = true) then 2 else
  if fieldE (letterAt x.op.toNat 0) x.d r n v s ≠ 0 then fieldE (letterAt x.op.toNat 0) x.d r n v s else
  if fieldE (letterAt x.op.toNat 1) x.a r n v s ≠ 0 then fieldE (letterAt x.op.toNat 1) x.a r n v s else
  fieldE (letterAt x.op.toNat 2) x.b r n v s

theorem insE_good {p : Bool} {x : In4} {r n v s : Int} {o : Nat} (h : x.op = (o : Int)) (ho : o < 17) (hq : opB p o = true) : insE p x r n v s =
    if fieldE (letterAt o 0) x.d r n v s ≠ 0 then fieldE (letterAt o 0) x.d r n v s else
    if fieldE (letterAt o 1) x.a r n v s ≠ 0 then fieldE (letterAt o 1) x.a r n v s else fieldE (letterAt o 2) x.b r n v s := by
  unfold insE
  rw [if_neg (fun k => k ⟨by omega, by omega, by rw [h, Int.toNat_natCast]; exact hq⟩), h, Int.toNat_natCast]

/-- The first error of code from the place k on, and its place. -/
def codedFrom (p : Bool) (L : List In4) (r v s : Int) (k : Nat) : Nat → Int × Int
  | 0 => if (inAt L (L.length - 1)).op ≠ 7 ∧ (inAt L (L.length - 1)).op ≠ 10 then (9, (L.length : Int) - 1) else (0, 0)
  | m + 1 => if insE p (inAt L k) r L.length v s ≠ 0 then (insE p (inAt L k) r L.length v s, (k : Int)) else codedFrom p L r v s (k + 1) m
def codedE (p : Bool) (L : List In4) (r v s : Int) : Int × Int := codedFrom p L r v s 0 L.length

theorem coded_here {p : Bool} {L : List In4} {r v s : Int} {k : Nat} (hk : k < L.length) (h : insE p (inAt L k) r L.length v s ≠ 0) : codedFrom p L r v s k (L.length - k) = (insE p (inAt L k) r L.length v s, (k : Int)) := by
  obtain ⟨m, hm⟩ : ∃ m, L.length - k = m + 1 := ⟨L.length - k - 1, by omega⟩
  rw [hm]; unfold codedFrom; rw [if_pos h]
theorem coded_on {p : Bool} {L : List In4} {r v s : Int} {k : Nat} (hk : k < L.length) (h : insE p (inAt L k) r L.length v s = 0) : codedFrom p L r v s k (L.length - k) = codedFrom p L r v s (k + 1) (L.length - (k + 1)) := by
  obtain ⟨m, hm⟩ : ∃ m, L.length - k = m + 1 := ⟨L.length - k - 1, by omega⟩
  rw [hm, show L.length - (k + 1) = m by omega]
  show (if _ then _ else _) = _
  rw [if_neg (by rw [h]; decide)]

def HeldIns (w : World) (ao : Option Addr) (L : List In4) : Prop := L = [] ∨ ∃ b off, ao = some ⟨b, off, none⟩ ∧ b < w.heap.size ∧ LieI w b off L
def SizeBad (P R V : Int) (n : Nat) : Prop := R < 1 ∨ 12 < R ∨ P < 0 ∨ 4 < P ∨ R < P ∨ V < 0 ∨ 4 < V ∨ n < 1 ∨ 40 < n
def decSize (P R V : Int) (n : Nat) : Decidable (SizeBad P R V n) := by unfold SizeBad; exact inferInstance
def progE (P R V : Int) (L : List In4) : Int × Int := @ite _ (SizeBad P R V L.length) (decSize P R V L.length) (1, 0) (codedE true L R V 0)
theorem progE_bad {P R V : Int} {L : List In4} (h : SizeBad P R V L.length) : progE P R V L = (1, 0) := by unfold progE; exact @if_pos _ (decSize _ _ _ _) h _ _ _
theorem progE_good {P R V : Int} {L : List In4} (h : ¬ SizeBad P R V L.length) : progE P R V L = codedE true L R V 0 := by unfold progE; exact @if_neg _ (decSize _ _ _ _) h _ _ _

theorem LieI.below {w w' : World} {B b off : Nat} {L : List In4} (h : LieI w b off L) (hb : Below B w w') (hB : b < B) : LieI w' b off L :=
  fun i hi => (h i hi).below hb hB
theorem HeldIns.below {w w' : World} {ao : Option Addr} {L : List In4} (h : HeldIns w ao L) (hb : Below w.heap.size w w') : HeldIns w' ao L := by
  rcases h with h | ⟨b, off, e, hB, hL⟩
  · exact .inl h
  · exact .inr ⟨b, off, e, Nat.lt_of_lt_of_le hB hb.size, hL.below hb hB⟩

theorem ret2 {a a' b b' : Int} (h : a = a') (h' : b = b') : Ending.returned (.tuple #[.int .i64 a, .int .i64 b]) = .returned (.tuple #[.int .i64 a', .int .i64 b']) := by rw [h, h']
end Go.Proofs.YtoepcplbpochpaaDoor
