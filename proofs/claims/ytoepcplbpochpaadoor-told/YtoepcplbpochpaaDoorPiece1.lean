/-
  What the small functions of the document's own answer compute: lodgeref.field, reach, Fits, filled.
-/
import Derived.Test.YtoepcplbpochpaaDoorRows
import Derived.WalkKit
import Derived.WalkSpells
import Derived.WalkLawsBesides

namespace Go.Proofs.YtoepcplbpochpaaDoor
open Go.RowKit

theorem hide {p : Prop} (h : p) : Hid p := h
theorem unhide {p : Prop} (h : Hid p) : p := h
theorem ret_int {k : IntKind} {a b : Int} (h : a = b) : Ending.returned (.int k a) = .returned (.int k b) := by rw [h]
theorem ret_bool {a b : Bool} (h : a = b) : Ending.returned (.bool a) = .returned (.bool b) := by rw [h]

/-- The error of a field whose kind is the letter c. -/
def fieldE (c n r k v s : Int) : Int :=
  if c = 114 then (if n < 0 ∨ r ≤ n then 3 else 0) else
  if c = 99 then (if n < 0 ∨ 65535 < n then 4 else 0) else
  if c = 116 then (if n < 0 ∨ k ≤ n then 5 else 0) else
  if c = 115 then (if n < 0 ∨ 99 < n then 6 else 0) else
  if c = 118 then (if n < 0 ∨ v ≤ n then 7 else 0) else
  if c = 102 then (if n < 0 ∨ s ≤ n then 8 else 0) else 0

set_option maxRecDepth 100000 in
set_option maxHeartbeats 2000000 in
theorem field_any (c n r k v s : Int) (w : World) (hc : c = 114 ∨ c = 99 ∨ c = 116 ∨ c = 115 ∨ c = 118 ∨ c = 102 ∨ c = 45) :
    Calls Tryd.prog 82 #[.int .u8 c, .int .i64 n, .int .i64 r, .int .i64 k, .int .i64 v, .int .i64 s] w fun e w' => e = .returned (.int .i64 (fieldE c n r k v s)) ∧ w' = w := by
  rcases hc with rfl | rfl | rfl | rfl | rfl | rfl | rfl
  all_goals
    go_enter Tryd.func82, Tryd.ntmps82
    go_wp2
    all_goals
      go_ret
      refine ⟨ret_int ?_, rfl⟩
      unfold fieldE
      simp
      try omega

/-- What the arithmetic gives; -1: it is trapped. -/
def reachE (op a b : Int) : Int :=
  if op = 2 then (a + b) % 65536 else if op = 3 then (a + 65536 - b) % 65536 else if op = 4 then a * b % 65536 else
  if op = 5 then (if b = 0 then -1 else a / b) else if a < b then 1 else 0

set_option maxRecDepth 100000 in
set_option maxHeartbeats 2000000 in
theorem reach_any (op a b : Int) (w : World) (ho : op = 2 ∨ op = 3 ∨ op = 4 ∨ op = 5 ∨ op = 6) (ha : 0 ≤ a) (ha' : a ≤ 65535) (hb : 0 ≤ b) (hb' : b ≤ 65535) :
    Calls Tryd.prog 87 #[.int .i64 op, .int .i64 a, .int .i64 b] w fun e w' => e = .returned (.int .i64 (reachE op a b)) ∧ w' = w := by
  have hm : 0 ≤ a * b := Int.mul_nonneg ha hb
  have hm' : a * b ≤ 65535 * 65535 := Int.mul_le_mul ha' hb' hb (by decide)
  by_cases h0 : b = 0
  · subst h0
    rcases ho with rfl | rfl | rfl | rfl | rfl
    all_goals
      go_enter Tryd.func87, Tryd.ntmps87
      go_wp2
      all_goals
        go_ret
        refine ⟨ret_int ?_, rfl⟩
        unfold reachE
        simp
        try omega
  · have h1 : (b == 0) = false := by rw [beq_eq_false_iff_ne]; exact h0
    have h2 : 1 ≤ b := by omega
    rcases ho with rfl | rfl | rfl | rfl | rfl
    all_goals
      go_enter Tryd.func87, Tryd.ntmps87
      go_wp2
      all_goals
        go_ret
        refine ⟨ret_int ?_, rfl⟩
        unfold reachE
        simp [h0]
        try omega

/-- The i-th number of a list. -/
def nth (l : List Int) (i : Nat) : Int := l.getD i 0
/-- A slice of numbers that lies somewhere: nothing is asked of its address where it is empty. -/
def HeldI (w : World) (ao : Option Addr) (xs : List Int) : Prop := xs = [] ∨ ∃ b off, ao = some ⟨b, off, none⟩ ∧ b < w.heap.size ∧ ∀ i, i < xs.length → w.cell? ⟨b, off + i, none⟩ = some (.int .i64 (nth xs i))

def valueB (x : Int) : Bool := decide (0 ≤ x ∧ x ≤ 65535)
def valuesTo (xs : List Int) (k : Nat) : Bool := (List.range k).all fun i => valueB (nth xs i)
def fitsB (xs : List Int) (n : Int) : Bool := valuesTo xs xs.length && ((xs.length : Int) == n)
theorem valuesTo_succ (xs : List Int) (k : Nat) : valuesTo xs (k + 1) = (valuesTo xs k && valueB (nth xs k)) := by
  unfold valuesTo; rw [List.range_succ, List.all_append]; simp
theorem valuesTo_mono (xs : List Int) {k n : Nat} (h : k ≤ n) (hn : valuesTo xs n = true) : valuesTo xs k = true := by
  unfold valuesTo at *; rw [List.all_eq_true] at *; intro i hi; rw [List.mem_range] at hi; exact hn i (by rw [List.mem_range]; omega)

set_option maxRecDepth 100000 in
set_option maxHeartbeats 1000000 in
theorem fits_any (xs : List Int) (n : Int) (ao : Option Addr) (cap : Nat) (w : World) (hH : HeldI w ao xs) (hl : xs.length ≤ 9223372036854775807) :
    Calls Tryd.prog 51 #[.slice ao xs.length cap, .int .i64 n] w fun e w' => e = .returned (.bool (fitsB xs n)) ∧ w' = w := by
  go_enter Tryd.func51, Tryd.ntmps51
  go_wp2
  go_loop [5] (fun i => ∃ k : Nat, k ≤ xs.length ∧ i = .int .i64 k ∧ Hid (valuesTo xs k = true)) (fun i => xs.length - (intOf i).toNat)
  case atStart => exact ⟨0, Nat.zero_le _, rfl, rfl⟩
  case round =>
    obtain ⟨k, hk, rfl, HV⟩ := hrel
    by_cases hlt : k < xs.length
    · obtain ⟨b, off, rfl, hb, hc⟩ : ∃ b off, ao = some ⟨b, off, none⟩ ∧ b < w.heap.size ∧ ∀ i, i < xs.length → w.cell? ⟨b, off + i, none⟩ = some (.int .i64 (nth xs i)) := by
        rcases hH with h | h
        · subst h; exact absurd hlt (by simp)
        · exact h
      have c := hc k hlt
      by_cases hv : 0 ≤ nth xs k ∧ nth xs k ≤ 65535
      · have hn := hide (show valuesTo xs (k + 1) = true by rw [valuesTo_succ, unhide HV]; simp [valueB, hv])
        obtain ⟨v0, v1⟩ := hv
        clear hc
        go_wp2
        go_round
        case rel => exact ⟨k + 1, by omega, by go_num, unhide hn⟩
        case measure => simp [intOf]; omega
      · have hf := hide (show fitsB xs n = false by
          unfold fitsB
          cases h : valuesTo xs xs.length
          · rfl
          · have := valuesTo_mono xs (show k + 1 ≤ xs.length by omega) h
            rw [valuesTo_succ] at this; simp [valueB] at this; omega)
        clear hc
        rcases (show nth xs k < 0 ∨ (0 ≤ nth xs k ∧ 65535 < nth xs k) by omega) with h | ⟨h, h'⟩
        all_goals
          clear hv
          go_wp2
          go_ret
          exact ⟨ret_bool (unhide hf).symm, rfl⟩
    · have hk' : k = xs.length := by omega
      have hf := hide (show ((xs.length : Int) == n) = fitsB xs n by unfold fitsB; rw [← hk', unhide HV]; simp)
      clear hk'
      go_wp2
      go_ret
      exact ⟨ret_bool (unhide hf), rfl⟩
end Go.Proofs.YtoepcplbpochpaaDoor

/-
  Programs as plain data: instructions, the error of a field, of an instruction, of a program, and its place.
-/
namespace Go.Proofs.YtoepcplbpochpaaDoor
open Go.RowKit

/-- The fields of an Op, as letters. -/
def formL : List (List UInt8) := [[114, 99, 45], [114, 114, 45], [114, 114, 114], [114, 114, 114], [114, 114, 114], [114, 114, 114], [114, 114, 114], [45, 116, 45], [45, 114, 116], [45, 114, 45], [45, 114, 45], [45, 115, 45], [118, 114, 45], [118, 99, 45], [118, 45, 45], [114, 102, 45], [102, 114, 45]]
def formS (k : Nat) : ByteArray := ⟨(formL.getD k []).toArray⟩

/-- Is the Op one of a program's (p) or of a unit's? -/
def opB (p : Bool) (k : Nat) : Bool := decide (k < 12) || (decide (k < 17) && (decide (11 < k ∧ k < 15) == p))
def opsA (p : Bool) : Array Value := ((List.range 17).map fun k => Value.bool (opB p k)).toArray

/-- An instruction. -/
structure In4 where
  op : Int
  d : Int
  a : Int
  b : Int
def inAt (L : List In4) (i : Nat) : In4 := L.getD i ⟨0, 0, 0, 0⟩
def At4 (w : World) (b o : Nat) (x : In4) : Prop :=
  w.cell? ⟨b, o, none⟩ = some (.int .i64 x.op) ∧ w.cell? ⟨b, o + 1, none⟩ = some (.int .i64 x.d) ∧ w.cell? ⟨b, o + 2, none⟩ = some (.int .i64 x.a) ∧ w.cell? ⟨b, o + 3, none⟩ = some (.int .i64 x.b)
def LieI (w : World) (b off : Nat) (L : List In4) : Prop := ∀ i, i < L.length → At4 w b (off + i * 4) (inAt L i)
theorem At4.below {w w' : World} {B b o : Nat} {x : In4} (h : At4 w b o x) (hb : Below B w w') (hB : b < B) : At4 w' b o x :=
  ⟨(hb.cell hB).trans h.1, (hb.cell hB).trans h.2.1, (hb.cell hB).trans h.2.2.1, (hb.cell hB).trans h.2.2.2⟩

/-- The letter of a field. -/
def letterAt (k j : Nat) : Int := (((formL.getD k []).getD j 0).toNat : Int)
def Letter (c : Int) : Prop := c = 114 ∨ c = 99 ∨ c = 116 ∨ c = 115 ∨ c = 118 ∨ c = 102 ∨ c = 45

theorem form_abc (k : Nat) (hk : k < 17) : ∃ a b c : UInt8, formS k = ⟨#[a, b, c]⟩ ∧ (a.toNat : Int) = letterAt k 0 ∧ (b.toNat : Int) = letterAt k 1 ∧ (c.toNat : Int) = letterAt k 2 ∧ Letter (letterAt k 0) ∧ Letter (letterAt k 1) ∧ Letter (letterAt k 2) := by
  rcases (show k = 0 ∨ k = 1 ∨ k = 2 ∨ k = 3 ∨ k = 4 ∨ k = 5 ∨ k = 6 ∨ k = 7 ∨ k = 8 ∨ k = 9 ∨ k = 10 ∨ k = 11 ∨ k = 12 ∨ k = 13 ∨ k = 14 ∨ k = 15 ∨ k = 16 by omega) with rfl | rfl | rfl | rfl | rfl | rfl | rfl | rfl | rfl | rfl | rfl | rfl | rfl | rfl | rfl | rfl | rfl
  all_goals exact ⟨_, _, _, rfl, rfl, rfl, rfl, by unfold Letter letterAt; decide, by unfold Letter letterAt; decide, by unfold Letter letterAt; decide⟩

theorem fieldE_nonneg (c n r k v s : Int) : 0 ≤ fieldE c n r k v s := by
  unfold fieldE
  repeat' split
  all_goals decide

/-- The error of an instruction. -/
def insE (p : Bool) (x : In4) (r n v s : Int) : Int :=
  if ¬ (0 ≤ x.op ∧ x.op < 17 ∧ opB p x.op.toNat = true) then 2 else
  if fieldE (letterAt x.op.toNat 0) x.d r n v s ≠ 0 then fieldE (letterAt x.op.toNat 0) x.d r n v s else
  if fieldE (letterAt x.op.toNat 1) x.a r n v s ≠ 0 then fieldE (letterAt x.op.toNat 1) x.a r n v s else
  fieldE (letterAt x.op.toNat 2) x.b r n v s

theorem insE_good {p : Bool} {x : In4} {r n v s : Int} {o : Nat} (h : x.op = (o : Int)) (ho : o < 17) (hq : opB p o = true) : insE p x r n v s =
    if fieldE (letterAt o 0) x.d r n v s ≠ 0 then fieldE (letterAt o 0) x.d r n v s else
    if fieldE (letterAt o 1) x.a r n v s ≠ 0 then fieldE (letterAt o 1) x.a r n v s else fieldE (letterAt o 2) x.b r n v s := by
  unfold insE
  rw [if_neg (fun k => k ⟨by omega, by omega, by rw [h, Int.toNat_natCast]; exact hq⟩), h, Int.toNat_natCast]

/-- The first error of code from the place k on, and its place. -/
def codedFrom (p : Bool) (L : List In4) (r v s : Int) (k : Nat) : Nat → Int × Int
  | 0 => if (inAt L (L.length - 1)).op ≠ 7 ∧ (inAt L (L.length - 1)).op ≠ 10 then (9, (L.length : Int) - 1) else (0, 0)
  | m + 1 => if insE p (inAt L k) r L.length v s ≠ 0 then (insE p (inAt L k) r L.length v s, (k : Int)) else codedFrom p L r v s (k + 1) m
def codedE (p : Bool) (L : List In4) (r v s : Int) : Int × Int := codedFrom p L r v s 0 L.length

theorem coded_here {p : Bool} {L : List In4} {r v s : Int} {k : Nat} (hk : k < L.length) (h : insE p (inAt L k) r L.length v s ≠ 0) : codedFrom p L r v s k (L.length - k) = (insE p (inAt L k) r L.length v s, (k : Int)) := by
  obtain ⟨m, hm⟩ : ∃ m, L.length - k = m + 1 := ⟨L.length - k - 1, by omega⟩
  rw [hm]; unfold codedFrom; rw [if_pos h]
theorem coded_on {p : Bool} {L : List In4} {r v s : Int} {k : Nat} (hk : k < L.length) (h : insE p (inAt L k) r L.length v s = 0) : codedFrom p L r v s k (L.length - k) = codedFrom p L r v s (k + 1) (L.length - (k + 1)) := by
  obtain ⟨m, hm⟩ : ∃ m, L.length - k = m + 1 := ⟨L.length - k - 1, by omega⟩
  rw [hm, show L.length - (k + 1) = m by omega]
  show (if _ then _ else _) = _
  rw [if_neg (by rw [h]; decide)]

def HeldIns (w : World) (ao : Option Addr) (L : List In4) : Prop := L = [] ∨ ∃ b off, ao = some ⟨b, off, none⟩ ∧ b < w.heap.size ∧ LieI w b off L
def SizeBad (P R V : Int) (n : Nat) : Prop := R < 1 ∨ 12 < R ∨ P < 0 ∨ 4 < P ∨ R < P ∨ V < 0 ∨ 4 < V ∨ n < 1 ∨ 40 < n
def decSize (P R V : Int) (n : Nat) : Decidable (SizeBad P R V n) := by unfold SizeBad; exact inferInstance
def progE (P R V : Int) (L : List In4) : Int × Int := @ite _ (SizeBad P R V L.length) (decSize P R V L.length) (1, 0) (codedE true L R V 0)
theorem progE_bad {P R V : Int} {L : List In4} (h : SizeBad P R V L.length) : progE P R V L = (1, 0) := by unfold progE; exact @if_pos _ (decSize _ _ _ _) h _ _ _
theorem progE_good {P R V : Int} {L : List In4} (h : ¬ SizeBad P R V L.length) : progE P R V L = codedE true L R V 0 := by unfold progE; exact @if_neg _ (decSize _ _ _ _) h _ _ _

theorem LieI.below {w w' : World} {B b off : Nat} {L : List In4} (h : LieI w b off L) (hb : Below B w w') (hB : b < B) : LieI w' b off L :=
  fun i hi => (h i hi).below hb hB
theorem HeldIns.below {w w' : World} {ao : Option Addr} {L : List In4} (h : HeldIns w ao L) (hb : Below w.heap.size w w') : HeldIns w' ao L := by
  rcases h with h | ⟨b, off, e, hB, hL⟩
  · exact .inl h
  · exact .inr ⟨b, off, e, Nat.lt_of_lt_of_le hB hb.size, hL.below hb hB⟩

theorem ret2 {a a' b b' : Int} (h : a = a') (h' : b = b') : Ending.returned (.tuple #[.int .i64 a, .int .i64 b]) = .returned (.tuple #[.int .i64 a', .int .i64 b']) := by rw [h, h']
end Go.Proofs.YtoepcplbpochpaaDoor

/-
  Plain mathematics: passes over places that only ever raise what is found at a place come to an end.
-/
namespace Go.Proofs.YtoepcplbpochpaaDoor
namespace Chaos

def sumTo (m : Nat → Nat) : Nat → Nat
  | 0 => 0
  | k + 1 => sumTo m k + m k
theorem sumTo_le {m m' : Nat → Nat} : ∀ n, (∀ i, i < n → m i ≤ m' i) → sumTo m n ≤ sumTo m' n
  | 0, _ => Nat.le_refl _
  | k + 1, h => Nat.add_le_add (sumTo_le k (fun i hi => h i (by omega))) (h k (by omega))
theorem sumTo_eq {m m' : Nat → Nat} : ∀ n, (∀ i, i < n → m i ≤ m' i) → sumTo m' n ≤ sumTo m n → ∀ i, i < n → m i = m' i
  | 0, _, _, i, hi => by omega
  | k + 1, h, he, i, hi => by
    have h1 := sumTo_le k (fun i hi => h i (by omega))
    have h2 := h k (by omega)
    have he' : sumTo m' k + m' k ≤ sumTo m k + m k := he
    by_cases e : i = k
    · subst e; omega
    · exact sumTo_eq k (fun i hi => h i (by omega)) (by omega) i (by omega)
theorem sumTo_bound {m : Nat → Nat} {c : Nat} : ∀ n, (∀ i, i < n → m i ≤ c) → sumTo m n ≤ c * n
  | 0, _ => Nat.zero_le _
  | k + 1, h => by
    have h1 := sumTo_bound k (fun i hi => h i (by omega))
    have h2 := h k (by omega)
    show sumTo m k + m k ≤ c * (k + 1)
    rw [Nat.mul_succ]; omega

/-- What is found at a place may be raised. -/
structure Up (α : Type) where
  le : α → α → Prop
  rank : α → Nat
  c : Nat
  refl : ∀ a, le a a
  trans : ∀ a b d, le a b → le b d → le a d
  mono : ∀ a b, le a b → rank a ≤ rank b
  anti : ∀ a b, le a b → rank a = rank b → a = b
  top : ∀ a, rank a ≤ c

variable {α : Type}
/-- s may have been raised to t. -/
def Le (U : Up α) (n : Nat) (s t : Nat → α) : Prop := (∀ i, i < n → U.le (s i) (t i)) ∧ ∀ i, n ≤ i → t i = s i
theorem Le.refl (U : Up α) (n : Nat) (s : Nat → α) : Le U n s s := ⟨fun _ _ => U.refl _, fun _ _ => rfl⟩
theorem Le.trans {U : Up α} {n : Nat} {s t u : Nat → α} (h : Le U n s t) (h' : Le U n t u) : Le U n s u :=
  ⟨fun i hi => U.trans _ _ _ (h.1 i hi) (h'.1 i hi), fun i hi => (h'.2 i hi).trans (h.2 i hi)⟩
def mu (U : Up α) (n : Nat) (s : Nat → α) : Nat := sumTo (fun i => U.rank (s i)) n
theorem Le.mu {U : Up α} {n : Nat} {s t : Nat → α} (h : Le U n s t) : mu U n s ≤ mu U n t := sumTo_le n (fun i hi => U.mono _ _ (h.1 i hi))
theorem Le.eq {U : Up α} {n : Nat} {s t : Nat → α} (h : Le U n s t) (hm : Chaos.mu U n t ≤ Chaos.mu U n s) : t = s := by
  funext i
  by_cases hi : i < n
  · exact (U.anti _ _ (h.1 i hi) (sumTo_eq n (fun i hi => U.mono _ _ (h.1 i hi)) hm i hi)).symm
  · exact h.2 i (by omega)
theorem mu_top (U : Up α) (n : Nat) (s : Nat → α) : mu U n s ≤ U.c * n := sumTo_bound n (fun _ _ => U.top _)

/-- One pass: updates one behind the other. -/
def pass (f : Nat → (Nat → α) → (Nat → α)) : List Nat → (Nat → α) → (Nat → α)
  | [], s => s
  | i :: l, s => pass f l (f i s)
def iter (g : (Nat → α) → (Nat → α)) : Nat → (Nat → α) → (Nat → α)
  | 0, s => s
  | m + 1, s => iter g m (g s)
theorem iter_succ (g : (Nat → α) → (Nat → α)) : ∀ m s, iter g (m + 1) s = g (iter g m s)
  | 0, _ => rfl
  | m + 1, s => iter_succ g m (g s)

variable {U : Up α} {n : Nat} {f : Nat → (Nat → α) → (Nat → α)} {I : (Nat → α) → Prop}
theorem pass_inv (hI : ∀ i, i < n → ∀ s, I s → I (f i s)) : ∀ l, (∀ i ∈ l, i < n) → ∀ s, I s → I (pass f l s)
  | [], _, _, h => h
  | i :: l, hl, s, h => pass_inv hI l (fun j hj => hl j (List.mem_cons_of_mem _ hj)) (f i s) (hI i (hl i List.mem_cons_self) s h)
theorem pass_le (hI : ∀ i, i < n → ∀ s, I s → I (f i s)) (hu : ∀ i, i < n → ∀ s, I s → Le U n s (f i s)) : ∀ l, (∀ i ∈ l, i < n) → ∀ s, I s → Le U n s (pass f l s)
  | [], _, _, _ => Le.refl _ _ _
  | i :: l, hl, s, h => (hu i (hl i List.mem_cons_self) s h).trans (pass_le hI hu l (fun j hj => hl j (List.mem_cons_of_mem _ hj)) _ (hI i (hl i List.mem_cons_self) s h))
/-- A pass that raises nothing raises nothing at any place. -/
theorem pass_fix (hI : ∀ i, i < n → ∀ s, I s → I (f i s)) (hu : ∀ i, i < n → ∀ s, I s → Le U n s (f i s)) : ∀ l, (∀ i ∈ l, i < n) → ∀ s, I s → pass f l s = s → ∀ i ∈ l, f i s = s
  | [], _, _, _, _, i, hi => by cases hi
  | j :: l, hl, s, h, he, i, hi => by
    have h1 := hu j (hl j List.mem_cons_self) s h
    have hI1 := hI j (hl j List.mem_cons_self) s h
    have hl' : ∀ i ∈ l, i < n := fun k hk => hl k (List.mem_cons_of_mem _ hk)
    have h2 := pass_le hI hu l hl' _ hI1
    have he' : pass f l (f j s) = s := he
    rw [he'] at h2
    have hj : f j s = s := h1.eq h2.mu
    rcases List.mem_cons.1 hi with rfl | hi
    · exact hj
    · rw [hj] at he'
      exact pass_fix hI hu l hl' s h he' i hi
theorem iter_inv (hI : ∀ i, i < n → ∀ s, I s → I (f i s)) (l : List Nat) (hl : ∀ i ∈ l, i < n) : ∀ m s, I s → I (iter (pass f l) m s)
  | 0, _, h => h
  | m + 1, s, h => iter_inv hI l hl m _ (pass_inv hI l hl s h)
theorem iter_or (hI : ∀ i, i < n → ∀ s, I s → I (f i s)) (hu : ∀ i, i < n → ∀ s, I s → Le U n s (f i s)) (l : List Nat) (hl : ∀ i ∈ l, i < n) (s : Nat → α) (hs : I s) :
    ∀ m, pass f l (iter (pass f l) m s) = iter (pass f l) m s ∨ m ≤ mu U n (iter (pass f l) m s)
  | 0 => .inr (Nat.zero_le _)
  | m + 1 => by
    rw [iter_succ]
    have hi := iter_inv hI l hl m s hs
    rcases iter_or hI hu l hl s hs m with h | h
    · left; rw [h, h]
    · have h1 := pass_le hI hu l hl _ hi
      by_cases e : mu U n (pass f l (iter (pass f l) m s)) ≤ mu U n (iter (pass f l) m s)
      · left; rw [h1.eq e, h1.eq e]
      · right; omega
/-- As many passes as can raise something find all. -/
theorem iter_fix (hI : ∀ i, i < n → ∀ s, I s → I (f i s)) (hu : ∀ i, i < n → ∀ s, I s → Le U n s (f i s)) (l : List Nat) (hl : ∀ i ∈ l, i < n) (s : Nat → α) (hs : I s) (m : Nat) (hm : U.c * n ≤ m) :
    ∀ i ∈ l, f i (iter (pass f l) m s) = iter (pass f l) m s := by
  refine pass_fix hI hu l hl _ (iter_inv hI l hl m s hs) ?_
  rcases iter_or hI hu l hl s hs m with h | h
  · exact h
  · have h1 := pass_le hI hu l hl _ (iter_inv hI l hl m s hs)
    refine h1.eq ?_
    have := mu_top U n (pass f l (iter (pass f l) m s))
    omega
end Chaos
theorem or_map {a b c d : Prop} (h : a ∨ b) (f : a → c) (g : b → d) : c ∨ d := h.elim (fun k => .inl (f k)) (fun k => .inr (g k))
end Go.Proofs.YtoepcplbpochpaaDoor

/-
  Plain mathematics of the ways of a program: where a way goes on, what an instruction reads and writes, what is live.
-/
namespace Go.Proofs.YtoepcplbpochpaaDoor
open Go.RowKit

/-- Where a way goes on: two places, one or none (-1). -/
def nx1 (x : In4) (i : Nat) : Int := if x.op = 7 then x.a else if x.op = 8 then x.b else if x.op = 10 then -1 else (i : Int) + 1
def nx2 (x : In4) (i : Nat) : Int := if x.op = 8 then (i : Int) + 1 else -1
def isRk (o : Int) : Bool := decide (2 ≤ o) && decide (o ≤ 6)
def isWr (o : Int) : Bool := o == 0 || o == 1 || isRk o
def rdB (x : In4) (r : Int) : Bool := if x.op = 1 ∨ x.op = 8 ∨ x.op = 9 ∨ x.op = 10 then x.a == r else isRk x.op && (x.a == r || x.b == r)
def wrB (x : In4) (r : Int) : Bool := isWr x.op && x.d == r
/-- j may come behind i. -/
def Nx (L : List In4) (i j : Nat) : Prop := (j : Int) = nx1 (inAt L i) i ∨ (j : Int) = nx2 (inAt L i) i
/-- No way leads out of the code. -/
def Inside (L : List In4) : Prop := ∀ i, i < L.length → (nx1 (inAt L i) i = -1 ∨ (0 ≤ nx1 (inAt L i) i ∧ nx1 (inAt L i) i < L.length)) ∧ (nx2 (inAt L i) i = -1 ∨ (0 ≤ nx2 (inAt L i) i ∧ nx2 (inAt L i) i < L.length))
theorem Nx.lt {L : List In4} (hL : Inside L) {i j : Nat} (hi : i < L.length) (h : Nx L i j) : j < L.length := by
  have := hL i hi
  rcases h with h | h <;> omega

/-- Is it live at an instruction that may come next? -/
def laterB (x : In4) (i : Nat) (g : Nat → Bool) : Bool := (nx1 x i != -1 && g (nx1 x i).toNat) || (nx2 x i != -1 && g (nx2 x i).toNat)
theorem later_iff {L : List In4} (hL : Inside L) {i : Nat} (hi : i < L.length) (g : Nat → Bool) : laterB (inAt L i) i g = true ↔ ∃ j, Nx L i j ∧ g j = true := by
  obtain ⟨h1, h2⟩ := hL i hi
  unfold laterB Nx
  generalize nx1 (inAt L i) i = a at h1 ⊢
  generalize nx2 (inAt L i) i = b at h2 ⊢
  rw [Bool.or_eq_true, Bool.and_eq_true, Bool.and_eq_true, bne_iff_ne, bne_iff_ne]
  constructor
  · rintro (⟨k, h⟩ | ⟨k, h⟩)
    · exact ⟨a.toNat, .inl (by omega), h⟩
    · exact ⟨b.toNat, .inr (by omega), h⟩
  · rintro ⟨j, h | h, k⟩
    · left; subst h; exact ⟨by omega, k⟩
    · right; subst h; exact ⟨by omega, k⟩

/-- What one update makes of what is known of one register. -/
def upR (L : List In4) (r : Int) (i : Nat) (g : Nat → Bool) : Nat → Bool := fun j => if j = i then rdB (inAt L i) r || (laterB (inAt L i) i g && !wrB (inAt L i) r) else g j
/-- From the place k - 1 down to 0. -/
def dnR (L : List In4) (r : Int) : Nat → (Nat → Bool) → (Nat → Bool)
  | 0, g => g
  | k + 1, g => dnR L r k (upR L r k g)
def downTo : Nat → List Nat
  | 0 => []
  | k + 1 => k :: downTo k
theorem mem_downTo {k i : Nat} : i ∈ downTo k ↔ i < k := by
  induction k with
  | zero => simp [downTo]
  | succ k ih => unfold downTo; rw [List.mem_cons, ih]; omega
theorem dnR_pass (L : List In4) (r : Int) : ∀ k g, dnR L r k g = Chaos.pass (upR L r) (downTo k) g
  | 0, _ => rfl
  | k + 1, _ => dnR_pass L r k _
def liveR (L : List In4) (r : Int) : Nat → Nat → Bool := fun m => Chaos.iter (dnR L r L.length) m (fun _ => false)
/-- Is the register r live at the place i? -/
def liveB (L : List In4) (i r : Nat) : Bool := liveR L r L.length i

def boolUp : Chaos.Up Bool := ⟨fun a b => a = true → b = true, fun a => if a then 1 else 0, 1, fun _ h => h, fun _ _ _ h h' k => h' (h k),
  fun a b h => by cases a <;> cases b <;> simp_all, fun a b h k => by cases a <;> cases b <;> simp_all, fun a => by cases a <;> simp⟩

/-- Nothing is known that an update would not find. -/
def Grows (L : List In4) (r : Int) (g : Nat → Bool) : Prop := ∀ i, i < L.length → g i = true → upR L r i g i = true
theorem later_mono {x : In4} {i : Nat} {g g' : Nat → Bool} (h : ∀ j, g j = true → g' j = true) (hl : laterB x i g = true) : laterB x i g' = true := by
  unfold laterB at *
  rw [Bool.or_eq_true, Bool.and_eq_true, Bool.and_eq_true] at *
  exact or_map hl (fun k => ⟨k.1, h _ k.2⟩) (fun k => ⟨k.1, h _ k.2⟩)
theorem upR_ge {L : List In4} {r : Int} {g : Nat → Bool} (hg : Grows L r g) {i : Nat} (hi : i < L.length) : ∀ j, g j = true → upR L r i g j = true := fun j hj => by
  by_cases e : j = i
  · subst e; exact hg j hi hj
  · unfold upR; rw [if_neg e]; exact hj
theorem grows_upR {L : List In4} {r : Int} {g : Nat → Bool} (hg : Grows L r g) {i : Nat} (hi : i < L.length) : Grows L r (upR L r i g) := fun j hj h => by
  have hge := upR_ge hg hi
  have key : upR L r j g j = true → upR L r j (upR L r i g) j = true := fun h => by
    unfold upR at h ⊢
    rw [if_pos rfl] at h ⊢
    rw [Bool.or_eq_true, Bool.and_eq_true] at h ⊢
    exact or_map h id (fun k => ⟨later_mono hge k.1, k.2⟩)
  by_cases e : j = i
  · subst e; exact key h
  · refine key (hg j hj ?_)
    unfold upR at h; rw [if_neg e] at h; exact h
theorem upR_le {L : List In4} {r : Int} {g : Nat → Bool} (hg : Grows L r g) {i : Nat} (hi : i < L.length) : Chaos.Le boolUp L.length g (upR L r i g) :=
  ⟨fun j _ => upR_ge hg hi j, fun j hj => by unfold upR; rw [if_neg (by omega)]⟩
theorem liveR_pass (L : List In4) (r : Int) (m : Nat) : liveR L r m = Chaos.iter (Chaos.pass (upR L r) (downTo L.length)) m (fun _ => false) := by
  unfold liveR; rw [show dnR L r L.length = Chaos.pass (upR L r) (downTo L.length) from funext (dnR_pass L r _)]
/-- What is found is what an update would find. -/
theorem live_fix (L : List In4) (r i : Nat) (hi : i < L.length) : liveB L i r = (rdB (inAt L i) r || (laterB (inAt L i) i (fun j => liveB L j r) && !wrB (inAt L i) r)) := by
  have h := Chaos.iter_fix (U := boolUp) (n := L.length) (f := upR L r) (I := Grows L r) (fun i hi s hs => grows_upR hs hi) (fun i hi s hs => upR_le hs hi) (downTo L.length) (fun i hi => mem_downTo.1 hi) (fun _ => false) (fun i _ h => by cases h) L.length (by show 1 * _ ≤ _; omega) i (mem_downTo.2 hi)
  rw [← liveR_pass] at h
  have h' := congrFun h i
  unfold upR at h'
  rw [if_pos rfl] at h'
  exact h'.symm

/-- There is a way of at most m instructions to one that reads the register, and none ahead of it writes it. -/
def liveW (L : List In4) (r : Int) : Nat → Nat → Prop
  | 0, _ => False
  | m + 1, i => i < L.length ∧ (rdB (inAt L i) r = true ∨ (wrB (inAt L i) r = false ∧ ∃ j, Nx L i j ∧ liveW L r m j))
def LiveP (L : List In4) (r : Int) (i : Nat) : Prop := ∃ m, liveW L r m i
theorem LiveP.here {L : List In4} {r : Int} {i : Nat} (hi : i < L.length) (h : rdB (inAt L i) r = true) : LiveP L r i := ⟨1, hi, .inl h⟩
theorem LiveP.on {L : List In4} {r : Int} {i j : Nat} (hi : i < L.length) (h : wrB (inAt L i) r = false) (hn : Nx L i j) (hj : LiveP L r j) : LiveP L r i := by
  obtain ⟨m, hm⟩ := hj
  exact ⟨m + 1, hi, .inr ⟨h, j, hn, hm⟩⟩
theorem LiveP.cases {L : List In4} {r : Int} {i : Nat} (h : LiveP L r i) : i < L.length ∧ (rdB (inAt L i) r = true ∨ (wrB (inAt L i) r = false ∧ ∃ j, Nx L i j ∧ LiveP L r j)) := by
  obtain ⟨m, hm⟩ := h
  cases m with
  | zero => cases hm
  | succ m => exact ⟨hm.1, or_map hm.2 id (fun ⟨a, j, b, c⟩ => ⟨a, j, b, m, c⟩)⟩
theorem liveW_found {L : List In4} (hL : Inside L) {r : Nat} : ∀ m i, liveW L r m i → liveB L i r = true
  | 0, _, h => by cases h
  | m + 1, i, h => by
    obtain ⟨hi, h⟩ := h
    rw [live_fix L r i hi, Bool.or_eq_true, Bool.and_eq_true]
    refine or_map h id ?_
    rintro ⟨hw, j, hn, hj⟩
    exact ⟨(later_iff hL hi _).2 ⟨j, hn, liveW_found hL m j hj⟩, by rw [hw]; rfl⟩
theorem upR_sound {L : List In4} (hL : Inside L) {r : Int} {i : Nat} (hi : i < L.length) {g : Nat → Bool} (hg : ∀ j, g j = true → LiveP L r j) : ∀ j, upR L r i g j = true → LiveP L r j := fun j h => by
  unfold upR at h
  by_cases e : j = i
  · subst e
    rw [if_pos rfl, Bool.or_eq_true, Bool.and_eq_true] at h
    rcases h with h | ⟨h, hw⟩
    · exact .here hi h
    · obtain ⟨k, hn, hk⟩ := (later_iff hL hi g).1 h
      refine .on hi ?_ hn (hg k hk)
      cases hq : wrB (inAt L j) r
      · rfl
      · rw [hq] at hw; cases hw
  · rw [if_neg e] at h; exact hg j h
theorem live_sound {L : List In4} (hL : Inside L) {r i : Nat} (h : liveB L i r = true) : LiveP L r i := by
  have : ∀ j, liveR L r L.length j = true → LiveP L r j := by
    rw [liveR_pass]
    exact Chaos.iter_inv (n := L.length) (f := upR L r) (I := fun g => ∀ j, g j = true → LiveP L r j) (fun i hi s hs => upR_sound hL hi hs) (downTo L.length) (fun i hi => mem_downTo.1 hi) L.length _ (fun j h => by cases h)
  exact this i h
theorem live_iff {L : List In4} (hL : Inside L) {r i : Nat} : liveB L i r = true ↔ LiveP L r i := ⟨live_sound hL, fun ⟨m, h⟩ => liveW_found hL m i h⟩
theorem live_lt {L : List In4} (hL : Inside L) {r i : Nat} (h : liveB L i r = true) : i < L.length := ((live_iff hL).1 h).cases.1
/-- What an instruction reads is live there. -/
theorem live_reads {L : List In4} (hL : Inside L) {r i : Nat} (hi : i < L.length) (h : rdB (inAt L i) r = true) : liveB L i r = true := (live_iff hL).2 (.here hi h)
/-- What is live behind an instruction is written by it or live ahead of it. -/
theorem live_back {L : List In4} (hL : Inside L) {r i j : Nat} (hi : i < L.length) (hn : Nx L i j) (h : liveB L j r = true) (hw : wrB (inAt L i) r = false) : liveB L i r = true :=
  (live_iff hL).2 (.on hi hw hn ((live_iff hL).1 h))
end Go.Proofs.YtoepcplbpochpaaDoor

/-
  Plain mathematics: what is known of a variable at each place of a program.
-/
namespace Go.Proofs.YtoepcplbpochpaaDoor
open Go.RowKit

/-- What is known: nothing yet (0), that nothing is sure (1), a constant (2), a register (3). -/
structure Ft where
  k : Int
  a : Int
def f0 : Ft := ⟨0, 0⟩
def f1 : Ft := ⟨1, 0⟩
/-- What is known behind an instruction. -/
def behF (x : In4) (v : Int) (f : Ft) : Ft :=
  if f.k = 0 then f else
  if f.k = 3 ∧ wrB x f.a = true then f1 else
  if (x.op = 12 ∨ x.op = 13 ∨ x.op = 14) ∧ x.d = v then (if x.op = 12 then ⟨3, x.a⟩ else if x.op = 13 then ⟨2, x.a⟩ else f1) else f
/-- What is known where two ways come together. -/
def metF (f g : Ft) : Ft := if f.k = 0 then g else if g.k = 0 ∨ (f.k = g.k ∧ f.a = g.a) then f else f1

/-- One variable: what an instruction brings to those that may come next. -/
def bring (p : Int) (f : Ft) (h : Nat → Ft) : Nat → Ft := if p = -1 then h else fun j => if j = p.toNat then metF (h j) f else h j
def sprF (L : List In4) (v : Int) (i : Nat) (h : Nat → Ft) : Nat → Ft := bring (nx2 (inAt L i) i) (behF (inAt L i) v (h i)) (bring (nx1 (inAt L i) i) (behF (inAt L i) v (h i)) h)
/-- From the place 0 up to k - 1. -/
def upF (L : List In4) (v : Int) : Nat → (Nat → Ft) → Nat → Ft
  | 0, h => h
  | k + 1, h => sprF L v k (upF L v k h)
def startF : Nat → Ft := fun i => if i = 0 then f1 else f0
def factM (L : List In4) (v : Int) : Nat → Nat → Ft := fun m => Chaos.iter (upF L v L.length) m startF
/-- What is known of the variable v at the place i. -/
def factB (L : List In4) (i v : Nat) : Ft := factM L v (2 * L.length) i

/-- Facts as the program writes them. -/
def Norm (f : Ft) : Prop := (f.k = 0 → f.a = 0) ∧ (f.k = 1 → f.a = 0) ∧ 0 ≤ f.k ∧ f.k ≤ 3
theorem norm0 : Norm f0 := ⟨fun _ => rfl, fun _ => rfl, by decide, by decide⟩
theorem norm1 : Norm f1 := ⟨fun _ => rfl, fun _ => rfl, by decide, by decide⟩
theorem norm_beh {x : In4} {v : Int} {f : Ft} (h : Norm f) : Norm (behF x v f) := by
  unfold behF
  split
  · exact h
  split
  · exact norm1
  split
  · split
    · exact ⟨fun h => (by cases h), fun h => (by cases h), by show (0 : Int) ≤ 3; decide, by show (3 : Int) ≤ 3; decide⟩
    · split
      · exact ⟨fun h => (by cases h), fun h => (by cases h), by show (0 : Int) ≤ 2; decide, by show (2 : Int) ≤ 3; decide⟩
      · exact norm1
  · exact h
theorem norm_met {f g : Ft} (hf : Norm f) (hg : Norm g) : Norm (metF f g) := by
  unfold metF
  split
  · exact hg
  split
  · exact hf
  · exact norm1
def NormAll (h : Nat → Ft) : Prop := ∀ i, Norm (h i)
theorem norm_bring {p : Int} {f : Ft} {h : Nat → Ft} (hf : Norm f) (hh : NormAll h) : NormAll (bring p f h) := fun i => by
  unfold bring
  split
  · exact hh i
  · show Norm (if i = p.toNat then metF (h i) f else h i)
    split
    · exact norm_met (hh i) hf
    · exact hh i
theorem norm_spr {L : List In4} {v : Int} {i : Nat} {h : Nat → Ft} (hh : NormAll h) : NormAll (sprF L v i h) := norm_bring (norm_beh (hh i)) (norm_bring (norm_beh (hh i)) hh)

theorem Ft.ext' {f g : Ft} (h1 : f.k = g.k) (h2 : f.a = g.a) : f = g := by cases f; cases g; simp only at h1 h2; rw [h1, h2]
def rankF (f : Ft) : Nat := if f.k = 0 then 0 else if f.k = 1 then 2 else 1
def leF (f g : Ft) : Prop := f = g ∨ (f.k = 0 ∧ g.k ≠ 0) ∨ (f.k ≠ 0 ∧ f.k ≠ 1 ∧ g.k = 1)
def ftUp : Chaos.Up Ft := ⟨leF, rankF, 2, fun _ => .inl rfl,
  fun a b d h1 h2 => by
    unfold leF at *
    rcases h1 with rfl | h1 | h1
    · exact h2
    · rcases h2 with rfl | h2 | h2
      · exact .inr (.inl h1)
      · exact absurd h2.1 h1.2
      · exact .inr (.inl ⟨h1.1, by omega⟩)
    · rcases h2 with rfl | h2 | h2
      · exact .inr (.inr h1)
      · omega
      · omega,
  fun a b h => by
    unfold leF at h; unfold rankF
    rcases h with rfl | ⟨h1, h2⟩ | ⟨h1, h2, h3⟩
    · exact Nat.le_refl _
    · rw [if_pos h1]; omega
    · rw [if_neg h1, if_neg h2, if_neg (by omega), if_pos h3]; omega,
  fun a b h e => by
    unfold leF at h; unfold rankF at e
    rcases h with h | ⟨h1, h2⟩ | ⟨h1, h2, h3⟩
    · exact h
    · rw [if_pos h1, if_neg h2] at e; split at e <;> omega
    · rw [if_neg h1, if_neg h2, if_neg (by omega), if_pos h3] at e; omega,
  fun a => by unfold rankF; split; omega; split <;> omega⟩
theorem met_le {f g : Ft} (hf : Norm f) (hg : Norm g) : leF f (metF f g) := by
  unfold leF metF
  by_cases h0 : f.k = 0
  · rw [if_pos h0]
    by_cases g0 : g.k = 0
    · exact .inl (Ft.ext' (by omega) (by rw [hf.1 h0, hg.1 g0]))
    · exact .inr (.inl ⟨h0, g0⟩)
  · rw [if_neg h0]
    by_cases h1 : g.k = 0 ∨ (f.k = g.k ∧ f.a = g.a)
    · rw [if_pos h1]; exact .inl rfl
    · rw [if_neg h1]
      by_cases e : f.k = 1
      · exact .inl (Ft.ext' e (hf.2.1 e))
      · exact .inr (.inr ⟨h0, e, rfl⟩)
theorem bring_le {n : Nat} {p : Int} {f : Ft} {h : Nat → Ft} (hf : Norm f) (hh : NormAll h) (hp : p = -1 ∨ (0 ≤ p ∧ p < n)) : Chaos.Le ftUp n h (bring p f h) := by
  unfold bring
  by_cases e : p = -1
  · rw [if_pos e]; exact Chaos.Le.refl _ _ _
  · rw [if_neg e]
    refine ⟨fun i _ => ?_, fun i hi => ?_⟩
    · show leF (h i) (if i = p.toNat then metF (h i) f else h i)
      split
      · exact met_le (hh i) hf
      · exact .inl rfl
    · show (if i = p.toNat then metF (h i) f else h i) = h i
      rw [if_neg (by omega)]
theorem spr_le {L : List In4} (hL : Inside L) {v : Int} {i : Nat} (hi : i < L.length) {h : Nat → Ft} (hh : NormAll h) : Chaos.Le ftUp L.length h (sprF L v i h) :=
  (bring_le (norm_beh (hh i)) hh (hL i hi).1).trans (bring_le (norm_beh (hh i)) (norm_bring (norm_beh (hh i)) hh) (hL i hi).2)
theorem pass_snoc {α : Type} (f : Nat → (Nat → α) → (Nat → α)) (i : Nat) : ∀ (l : List Nat) (s : Nat → α), Chaos.pass f (l ++ [i]) s = f i (Chaos.pass f l s)
  | [], _ => rfl
  | j :: l, s => pass_snoc f i l (f j s)
theorem upF_pass (L : List In4) (v : Int) : ∀ k h, upF L v k h = Chaos.pass (sprF L v) (List.range k) h
  | 0, _ => rfl
  | k + 1, h => by
    rw [List.range_succ, pass_snoc, ← upF_pass L v k h]; rfl
theorem factM_pass (L : List In4) (v : Int) (m : Nat) : factM L v m = Chaos.iter (Chaos.pass (sprF L v) (List.range L.length)) m startF := by
  unfold factM; rw [show upF L v L.length = Chaos.pass (sprF L v) (List.range L.length) from funext (upF_pass L v _)]
theorem norm_start : NormAll startF := fun i => by
  unfold startF
  split
  · exact norm1
  · exact norm0
theorem fact_norm (L : List In4) (i v : Nat) : Norm (factB L i v) := by
  unfold factB
  rw [factM_pass]
  exact Chaos.iter_inv (n := L.length) (f := sprF L v) (I := NormAll) (fun i _ s hs => norm_spr hs) (List.range L.length) (fun i hi => List.mem_range.1 hi) _ _ norm_start i
/-- Nothing more can be brought anywhere. -/
theorem fact_fix {L : List In4} (hL : Inside L) (v : Nat) {i : Nat} (hi : i < L.length) : sprF L v i (fun j => factB L j v) = fun j => factB L j v := by
  have h := Chaos.iter_fix (U := ftUp) (n := L.length) (f := sprF L v) (I := NormAll) (fun i _ s hs => norm_spr hs) (fun i hi s hs => spr_le hL hi hs) (List.range L.length) (fun i hi => List.mem_range.1 hi) startF norm_start (2 * L.length) (by show 2 * _ ≤ _; omega) i (List.mem_range.2 hi)
  rw [← factM_pass] at h
  exact h
theorem met_fix {L : List In4} (hL : Inside L) (v : Nat) {i j : Nat} (hi : i < L.length) (hn : Nx L i j) : metF (factB L j v) (behF (inAt L i) v (factB L i v)) = factB L j v := by
  have h := fact_fix hL v hi
  have hj := hn.lt hL hi
  unfold sprF at h
  have hN : NormAll (fun j => factB L j v) := fun j => fact_norm L j v
  have hb := norm_beh (x := inAt L i) (v := v) (hN i)
  have l1 := bring_le (n := L.length) hb hN (hL i hi).1
  have l2 := bring_le (n := L.length) hb (norm_bring (p := nx1 (inAt L i) i) hb hN) (hL i hi).2
  have e1 : bring (nx1 (inAt L i) i) (behF (inAt L i) v (factB L i v)) (fun j => factB L j v) = fun j => factB L j v := by
    refine l1.eq ?_
    have := l2.mu
    rw [h] at this
    exact this
  rw [e1] at h
  rcases hn with hn | hn
  · have := congrFun e1 j
    unfold bring at this
    rw [if_neg (by omega)] at this
    have h2 : (if j = (nx1 (inAt L i) i).toNat then metF (factB L j v) (behF (inAt L i) v (factB L i v)) else factB L j v) = factB L j v := this
    rw [if_pos (by omega)] at h2
    exact h2
  · have := congrFun h j
    unfold bring at this
    rw [if_neg (by omega)] at this
    have h2 : (if j = (nx2 (inAt L i) i).toNat then metF (factB L j v) (behF (inAt L i) v (factB L i v)) else factB L j v) = factB L j v := this
    rw [if_pos (by omega)] at h2
    exact h2

/-- What is known is so: of a value, with such registers. -/
def FactOk (f : Ft) (regs : Nat → Int) (val : Int) : Prop := f.k ≠ 0 ∧ (f.k = 2 → val = f.a) ∧ (f.k = 3 → 0 ≤ f.a ∧ val = regs f.a.toNat)
theorem fact_met {f g : Ft} {regs : Nat → Int} {val : Int} (hg : FactOk g regs val) (h : metF f g = f) : FactOk f regs val := by
  unfold metF at h
  by_cases h0 : f.k = 0
  · rw [if_pos h0] at h; rw [← h]; exact hg
  · rw [if_neg h0] at h
    by_cases h1 : g.k = 0 ∨ (f.k = g.k ∧ f.a = g.a)
    · rcases h1 with h1 | ⟨h1, h2⟩
      · exact absurd h1 hg.1
      · rw [Ft.ext' h1 h2]; exact hg
    · rw [if_neg h1] at h
      rw [← h]
      exact ⟨by decide, fun h => (by cases h), fun h => (by cases h)⟩
theorem fact_zero (L : List In4) (v : Nat) : (factB L 0 v).k = 1 := by
  have key : ∀ m, factM L v m 0 = f1 := fun m => by
    rw [factM_pass]
    refine Chaos.iter_inv (n := L.length) (f := sprF L v) (I := fun h => h 0 = f1) (fun i _ s hs => ?_) (List.range L.length) (fun i hi => List.mem_range.1 hi) m startF rfl
    have step : ∀ (p : Int) (f : Ft) (h : Nat → Ft), h 0 = f1 → bring p f h 0 = f1 := fun p f h hh => by
      unfold bring
      split
      · exact hh
      · show (if 0 = p.toNat then metF (h 0) f else h 0) = f1
        split
        · rw [hh]; unfold metF; rw [if_neg (by decide)]; split <;> rfl
        · exact hh
    exact step _ _ _ (step _ _ _ hs)
  unfold factB; rw [key]; rfl

/-- What must be told is known: S: the places from which a way comes to i with nothing said. -/
structure MustW (L : List In4) (v i : Nat) (on : Nat → Prop) (S : Nat → Prop) (o a : Int) : Prop where
  on0 : on 0
  onx : ∀ k j, k < L.length → on k → Nx L k j → on j
  i0 : i ≠ 0
  s0 : ¬ S 0
  cl : ∀ k j, k < L.length → on k → Nx L k j → (j = i ∨ S j) → (((12 ≤ (inAt L k).op ∧ (inAt L k).op ≤ 14) ∧ (inAt L k).d = (v : Int) ∧ (inAt L k).op = o ∧ (inAt L k).a = a) ∨ (¬ ((12 ≤ (inAt L k).op ∧ (inAt L k).op ≤ 14) ∧ (inAt L k).d = (v : Int)) ∧ S k))
  kind : o = 13 ∨ (o = 12 ∧ ∀ k, S k → wrB (inAt L k) a = false)
theorem must_fact {L : List In4} (hL : Inside L) {v i : Nat} {on S : Nat → Prop} {o a : Int} (h : MustW L v i on S o a) (hi : (factB L i v).k ≠ 0) : factB L i v = ⟨if o = 13 then 2 else 3, a⟩ := by
  have key : ∀ m, (∀ k, (factM L v m k).k ≠ 0 → on k) ∧ (∀ j, (j = i ∨ S j) → (factM L v m j).k = 0 ∨ factM L v m j = ⟨if o = 13 then 2 else 3, a⟩) := fun m => by
    rw [factM_pass]
    refine Chaos.iter_inv (n := L.length) (f := sprF L v) (I := fun g => (∀ k, (g k).k ≠ 0 → on k) ∧ (∀ j, (j = i ∨ S j) → (g j).k = 0 ∨ g j = ⟨if o = 13 then 2 else 3, a⟩)) (fun k hk g hg => ?_) (List.range L.length) (fun i hi => List.mem_range.1 hi) m startF ?_
    · obtain ⟨g1, g2⟩ := hg
      obtain ⟨b, hb⟩ : ∃ b, b = behF (inAt L k) v (g k) := ⟨_, rfl⟩
      -- what is brought
      have hb0 : b.k ≠ 0 → on k := fun hne => g1 k (fun e => hne (by rw [hb]; unfold behF; rw [if_pos e]; exact e))
      have hbx : ∀ j, Nx L k j → (j = i ∨ S j) → b.k = 0 ∨ b = ⟨if o = 13 then 2 else 3, a⟩ := fun j hn hj => by
        by_cases hz : (g k).k = 0
        · left; rw [hb]; unfold behF; rw [if_pos hz]; exact hz
        · rcases h.cl k j hk (g1 k hz) hn hj with ⟨⟨c1, c2⟩, c3, c4, c5⟩ | ⟨c1, c2⟩
          · right
            have hw : wrB (inAt L k) (g k).a = false := by unfold wrB isWr isRk; rw [show ((inAt L k).op == 0) = false by rw [beq_eq_false_iff_ne]; omega, show ((inAt L k).op == 1) = false by rw [beq_eq_false_iff_ne]; omega, show decide ((inAt L k).op ≤ 6) = false by rw [decide_eq_false_iff_not]; omega]; simp
            rw [hb]; unfold behF
            rw [if_neg hz, if_neg (by rw [hw]; intro hh; cases hh.2), if_pos ⟨by omega, c3⟩]
            rcases h.kind with e | ⟨e, _⟩
            · rw [if_neg (by omega), if_pos (by omega), c5, if_pos e]
            · rw [if_pos (by omega), c5, if_neg (by omega)]
          · right
            rcases g2 k (.inr c2) with hz' | hz'
            · exact absurd hz' hz
            · rw [hb]; unfold behF
              rw [if_neg hz, if_neg, if_neg (fun hh => c1 ⟨by omega, hh.2⟩)]
              · exact hz'
              · rintro ⟨k3, hw⟩
                rw [hz'] at k3 hw
                rcases h.kind with e | ⟨e, hS⟩
                · rw [if_pos e] at k3; cases k3
                · have := hS k c2; rw [this] at hw; cases hw
      have hmet : ∀ f : Ft, (f.k = 0 ∨ f = ⟨if o = 13 then 2 else 3, a⟩) → (b.k = 0 ∨ b = ⟨if o = 13 then 2 else 3, a⟩) → (metF f b).k = 0 ∨ metF f b = ⟨if o = 13 then 2 else 3, a⟩ := fun f h1 h2 => by
        unfold metF
        by_cases hf : f.k = 0
        · rw [if_pos hf]; exact h2
        · rw [if_neg hf]
          have hf' := h1.resolve_left hf
          rcases h2 with h2 | h2
          · rw [if_pos (.inl h2)]; exact h1
          · rw [if_pos (.inr ⟨by rw [hf', h2], by rw [hf', h2]⟩)]; exact h1
      have hmet0 : ∀ f : Ft, (metF f b).k ≠ 0 → f.k ≠ 0 ∨ b.k ≠ 0 := fun f hne => by
        unfold metF at hne
        by_cases hf : f.k = 0
        · rw [if_pos hf] at hne; exact .inr hne
        · exact .inl hf
      have step : ∀ (p : Int) (q : Nat → Ft), (p = -1 ∨ ∀ j : Nat, j = p.toNat → Nx L k j) → ((∀ k, (q k).k ≠ 0 → on k) ∧ (∀ j, (j = i ∨ S j) → (q j).k = 0 ∨ q j = ⟨if o = 13 then 2 else 3, a⟩)) → ((∀ k, (bring p b q k).k ≠ 0 → on k) ∧ (∀ j, (j = i ∨ S j) → (bring p b q j).k = 0 ∨ bring p b q j = ⟨if o = 13 then 2 else 3, a⟩)) := fun p q hp hq => by
        unfold bring
        by_cases e : p = -1
        · rw [if_pos e]; exact hq
        · rw [if_neg e]
          have hp' := hp.resolve_left e
          refine ⟨fun j hj => ?_, fun j hj => ?_⟩
          · have hj' : (if j = p.toNat then metF (q j) b else q j).k ≠ 0 := hj
            by_cases ej : j = p.toNat
            · rw [if_pos ej] at hj'
              rcases hmet0 _ hj' with h1 | h1
              · exact hq.1 j h1
              · exact h.onx k j hk (hb0 h1) (hp' j ej)
            · rw [if_neg ej] at hj'; exact hq.1 j hj'
          · show (if j = p.toNat then metF (q j) b else q j).k = 0 ∨ (if j = p.toNat then metF (q j) b else q j) = _
            by_cases ej : j = p.toNat
            · rw [if_pos ej]; exact hmet _ (hq.2 j hj) (hbx j (hp' j ej) hj)
            · rw [if_neg ej]; exact hq.2 j hj
      unfold sprF
      rw [← hb]
      refine step _ _ ?_ (step _ _ ?_ ⟨g1, g2⟩)
      · by_cases e : nx2 (inAt L k) k = -1
        · exact .inl e
        · right; intro j hj; right; unfold nx2 at hj e ⊢; split at e
          · rename_i h8; rw [if_pos h8] at hj ⊢; omega
          · exact absurd rfl e
      · by_cases e : nx1 (inAt L k) k = -1
        · exact .inl e
        · right; intro j hj; left; have := (hL k hk).1; omega
    · refine ⟨fun k hk => ?_, fun j hj => ?_⟩
      · unfold startF at hk
        by_cases e : k = 0
        · subst e; exact h.on0
        · rw [if_neg e] at hk; exact absurd rfl hk
      · left
        unfold startF
        rw [if_neg (fun e => by subst e; rcases hj with hj | hj; exact h.i0 hj.symm; exact h.s0 hj)]
        rfl
  exact ((key (2 * L.length)).2 i (.inl rfl)).resolve_left hi
end Go.Proofs.YtoepcplbpochpaaDoor
