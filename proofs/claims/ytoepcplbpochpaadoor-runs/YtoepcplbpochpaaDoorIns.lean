/-
  Programs as plain data: instructions, the error of a field, of an instruction, of a program, and its place.
-/
import Derived.Test.YtoepcplbpochpaaDoorSmall
namespace Go.Proofs.YtoepcplbpochpaaDoor
open Go.RowKit

/-- The fields of an Op, as letters. -/
def formL : List (List UInt8) := [[114, 99, 45], [114, 114, 45], [114, 114, 114], [114, 114, 114], [114, 114, 114], [114, 114, 114], [114, 114, 114], [45, 116, 45], [45, 114, 116], [45, 114, 45], [45, 114, 45], [45, 115, 45], [118, 114, 45], [118, 99, 45], [118, 45, 45], [114, 102, 45], [102, 114, 45]]
def formS (k : Nat) : ByteArray := ⟨(formL.getD k []).toArray⟩

/-- Is the Op one of a program's (p) or of a unit's? -/
def opB (p : Bool) (k : Nat) : Bool := decide (k < 12) || (decide (k < 17) && (decide (11 < k ∧ k < 15) == p))
def opsA (p : Bool) : Array Value := ((List.range 17).map fun k => Value.bool (opB p k)).toArray

/-- An instruction. -/
structure In4 where
  op : Int
  d : Int
  a : Int
  b : Int
def inAt (L : List In4) (i : Nat) : In4 := L.getD i ⟨0, 0, 0, 0⟩
def At4 (w : World) (b o : Nat) (x : In4) : Prop :=
  w.cell? ⟨b, o, none⟩ = some (.int .i64 x.op) ∧ w.cell? ⟨b, o + 1, none⟩ = some (.int .i64 x.d) ∧ w.cell? ⟨b, o + 2, none⟩ = some (.int .i64 x.a) ∧ w.cell? ⟨b, o + 3, none⟩ = some (.int .i64 x.b)
def LieI (w : World) (b off : Nat) (L : List In4) : Prop := ∀ i, i < L.length → At4 w b (off + i * 4) (inAt L i)
theorem At4.below {w w' : World} {B b o : Nat} {x : In4} (h : At4 w b o x) (hb : Below B w w') (hB : b < B) : At4 w' b o x :=
  ⟨(hb.cell hB).trans h.1, (hb.cell hB).trans h.2.1, (hb.cell hB).trans h.2.2.1, (hb.cell hB).trans h.2.2.2⟩

/-- The letter of a field. -/
def letterAt (k j : Nat) : Int := (((formL.getD k []).getD j 0).toNat : Int)
def Letter (c : Int) : Prop := c = 114 ∨ c = 99 ∨ c = 116 ∨ c = 115 ∨ c = 118 ∨ c = 102 ∨ c = 45

theorem form_abc (k : Nat) (hk : k < 17) : ∃ a b c : UInt8, formS k = ⟨#[a, b, c]⟩ ∧ (a.toNat : Int) = letterAt k 0 ∧ (b.toNat : Int) = letterAt k 1 ∧ (c.toNat : Int) = letterAt k 2 ∧ Letter (letterAt k 0) ∧ Letter (letterAt k 1) ∧ Letter (letterAt k 2) := by
  rcases (show k = 0 ∨ k = 1 ∨ k = 2 ∨ k = 3 ∨ k = 4 ∨ k = 5 ∨ k = 6 ∨ k = 7 ∨ k = 8 ∨ k = 9 ∨ k = 10 ∨ k = 11 ∨ k = 12 ∨ k = 13 ∨ k = 14 ∨ k = 15 ∨ k = 16 by omega) with rfl | rfl | rfl | rfl | rfl | rfl | rfl | rfl | rfl | rfl | rfl | rfl | rfl | rfl | rfl | rfl | rfl
  all_goals exact ⟨_, _, _, rfl, rfl, rfl, rfl, by unfold Letter letterAt; decide, by unfold Letter letterAt; decide, by unfold Letter letterAt; decide⟩

theorem fieldE_nonneg (c n r k v s : Int) : 0 ≤ fieldE c n r k v s := by
  unfold fieldE
  repeat' split
  all_goals decide

/-- The error of an instruction. -/
def insE (p : Bool) (x : In4) (r n v s : Int) : Int :=
  if ¬ (0 ≤ x.op ∧ x.op < 17 ∧ opB p x.op.toNat = true) then 2 else
  if fieldE (letterAt x.op.toNat 0) x.d r n v s ≠ 0 then fieldE (letterAt x.op.toNat 0) x.d r n v s else
  if fieldE (letterAt x.op.toNat 1) x.a r n v s ≠ 0 then fieldE (letterAt x.op.toNat 1) x.a r n v s else
  fieldE (letterAt x.op.toNat 2) x.b r n v s

theorem insE_good {p : Bool} {x : In4} {r n v s : Int} {o : Nat} (h : x.op = (o : Int)) (ho : o < 17) (hq : opB p o = true) : insE p x r n v s =
    if fieldE (letterAt o 0) x.d r n v s ≠ 0 then fieldE (letterAt o 0) x.d r n v s else
    if fieldE (letterAt o 1) x.a r n v s ≠ 0 then fieldE (letterAt o 1) x.a r n v s else fieldE (letterAt o 2) x.b r n v s := by
  unfold insE
  rw [if_neg (fun k => k ⟨by omega, by omega, by rw [h, Int.toNat_natCast]; exact hq⟩), h, Int.toNat_natCast]

/-- The first error of code from the place k on, and its place. -/
def codedFrom (p : Bool) (L : List In4) (r v s : Int) (k : Nat) : Nat → Int × Int
  | 0 => if (inAt L (L.length - 1)).op ≠ 7 ∧ (inAt L (L.length - 1)).op ≠ 10 then (9, (L.length : Int) - 1) else (0, 0)
  | m + 1 => if insE p (inAt L k) r L.length v s ≠ 0 then (insE p (inAt L k) r L.length v s, (k : Int)) else codedFrom p L r v s (k + 1) m
def codedE (p : Bool) (L : List In4) (r v s : Int) : Int × Int := codedFrom p L r v s 0 L.length

theorem coded_here {p : Bool} {L : List In4} {r v s : Int} {k : Nat} (hk : k < L.length) (h : insE p (inAt L k) r L.length v s ≠ 0) : codedFrom p L r v s k (L.length - k) = (insE p (inAt L k) r L.length v s, (k : Int)) := by
  obtain ⟨m, hm⟩ : ∃ m, L.length - k = m + 1 := ⟨L.length - k - 1, by omega⟩
  rw [hm]; unfold codedFrom; rw [if_pos h]
theorem coded_on {p : Bool} {L : List In4} {r v s : Int} {k : Nat} (hk : k < L.length) (h : insE p (inAt L k) r L.length v s = 0) : codedFrom p L r v s k (L.length - k) = codedFrom p L r v s (k + 1) (L.length - (k + 1)) := by
  obtain ⟨m, hm⟩ : ∃ m, L.length - k = m + 1 := ⟨L.length - k - 1, by omega⟩
  rw [hm, show L.length - (k + 1) = m by omega]
  show (if _ then _ else _) = _
  rw [if_neg (by rw [h]; decide)]

def HeldIns (w : World) (ao : Option Addr) (L : List In4) : Prop := L = [] ∨ ∃ b off, ao = some ⟨b, off, none⟩ ∧ b < w.heap.size ∧ LieI w b off L
def SizeBad (P R V : Int) (n : Nat) : Prop := R < 1 ∨ 12 < R ∨ P < 0 ∨ 4 < P ∨ R < P ∨ V < 0 ∨ 4 < V ∨ n < 1 ∨ 40 < n
def decSize (P R V : Int) (n : Nat) : Decidable (SizeBad P R V n) := by unfold SizeBad; exact inferInstance
def progE (P R V : Int) (L : List In4) : Int × Int := @ite _ (SizeBad P R V L.length) (decSize P R V L.length) (1, 0) (codedE true L R V 0)
theorem progE_bad {P R V : Int} {L : List In4} (h : SizeBad P R V L.length) : progE P R V L = (1, 0) := by unfold progE; exact @if_pos _ (decSize _ _ _ _) h _ _ _
theorem progE_good {P R V : Int} {L : List In4} (h : ¬ SizeBad P R V L.length) : progE P R V L = codedE true L R V 0 := by unfold progE; exact @if_neg _ (decSize _ _ _ _) h _ _ _

theorem LieI.below {w w' : World} {B b off : Nat} {L : List In4} (h : LieI w b off L) (hb : Below B w w') (hB : b < B) : LieI w' b off L :=
  fun i hi => (h i hi).below hb hB
theorem HeldIns.below {w w' : World} {ao : Option Addr} {L : List In4} (h : HeldIns w ao L) (hb : Below w.heap.size w w') : HeldIns w' ao L := by
  rcases h with h | ⟨b, off, e, hB, hL⟩
  · exact .inl h
  · exact .inr ⟨b, off, e, Nat.lt_of_lt_of_le hB hb.size, hL.below hb hB⟩

theorem ret2 {a a' b b' : Int} (h : a = a') (h' : b = b') : Ending.returned (.tuple #[.int .i64 a, .int .i64 b]) = .returned (.tuple #[.int .i64 a', .int .i64 b']) := by rw [h, h']
end Go.Proofs.YtoepcplbpochpaaDoor
