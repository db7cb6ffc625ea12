/-
  Plain mathematics of numbers as bytes: what a number's bytes are, and what number stands at the head of a list of bytes. No Go here.
-/
import Derived.Laws.BytesArg
namespace Go.Proofs.YtoepcplbpochpaaDoor

/-- The bytes of a number, lowest seven bits first. -/
def encI (n : Int) : List Int :=
  if n < 128 then [n] else if n < 16384 then [n % 128 + 128, n / 128] else [n % 128 + 128, n / 128 % 128 + 128, n / 16384]

theorem enc_one {n : Int} (h : n < 128) : encI n = [n] := by unfold encI; rw [if_pos h]
theorem enc_two {n : Int} (h : ¬ n < 128) (h' : n < 16384) : encI n = [n % 128 + 128, n / 128] := by unfold encI; rw [if_neg h, if_pos h']
theorem enc_three {n : Int} (h' : ¬ n < 16384) : encI n = [n % 128 + 128, n / 128 % 128 + 128, n / 16384] := by unfold encI; rw [if_neg (by omega), if_neg h']

theorem enc_step {n : Int} (h : 128 ≤ n) (h' : n ≤ 2097151) : encI n = (n % 128 + 128) :: encI (n / 128) := by
  by_cases a : n < 16384
  · rw [enc_two (by omega) a, enc_one (by omega)]
  · rw [enc_three a, enc_two (by omega) (by omega)]
    congr 3
    omega

/-- The string of a number. -/
def numS (n : Int) : ByteArray := strOfNums (encI n)

/-- The third byte of a number. -/
def get3 (u : Int) : List UInt8 → Option (Int × Nat)
  | [] => none
  | c :: _ => if (c.toNat : Int) < 128 then (if (c.toNat : Int) = 0 then none else some (u + (c.toNat : Int) * 16384, 3)) else none
/-- The second byte of a number. -/
def get2 (u : Int) : List UInt8 → Option (Int × Nat)
  | [] => none
  | b :: r => if (b.toNat : Int) < 128 then (if (b.toNat : Int) = 0 then none else some (u + (b.toNat : Int) * 128, 2)) else get3 (u + (b.toNat : Int) % 128 * 128) r
/-- The number that stands at the head of a list of bytes, and how many bytes it takes. -/
def getL : List UInt8 → Option (Int × Nat)
  | [] => none
  | a :: r => if (a.toNat : Int) < 128 then some ((a.toNat : Int), 1) else get2 ((a.toNat : Int) % 128) r

theorem drop_nil {s : ByteArray} {k : Nat} (h : s.size ≤ k) : s.data.toList.drop k = [] := List.drop_of_length_le (by simpa using h)
theorem drop_cons {s : ByteArray} {k : Nat} (h : k < s.size) : s.data.toList.drop k = s[k] :: s.data.toList.drop (k + 1) := by
  rw [List.drop_eq_getElem_cons (by simpa using h)]; rfl

/-- What Get answers at a place within int's nought and more. -/
def getR (s : ByteArray) (i : Int) : Value :=
  if i < 0 then .tuple #[.int .i64 0, .int .i64 0, .int .i64 14] else
  match getL (s.data.toList.drop i.toNat) with
  | none => .tuple #[.int .i64 0, .int .i64 0, .int .i64 14]
  | some (v, k) => .tuple #[.int .i64 v, .int .i64 (i + k), .int .i64 0]

theorem getR_neg {s : ByteArray} {i : Int} (h : i < 0) : getR s i = .tuple #[.int .i64 0, .int .i64 0, .int .i64 14] := by unfold getR; rw [if_pos h]
theorem getR_none {s : ByteArray} {k : Nat} (h : getL (s.data.toList.drop k) = none) : getR s k = .tuple #[.int .i64 0, .int .i64 0, .int .i64 14] := by
  unfold getR; rw [if_neg (by omega), Int.toNat_natCast, h]
theorem getR_some {s : ByteArray} {k : Nat} {v : Int} {j : Nat} (h : getL (s.data.toList.drop k) = some (v, j)) : getR s k = .tuple #[.int .i64 v, .int .i64 (k + j), .int .i64 0] := by
  unfold getR; rw [if_neg (by omega), Int.toNat_natCast, h]

theorem getL_cons (a : UInt8) (r : List UInt8) : getL (a :: r) = if (a.toNat : Int) < 128 then some ((a.toNat : Int), 1) else get2 ((a.toNat : Int) % 128) r := rfl
theorem get2_cons (u : Int) (b : UInt8) (r : List UInt8) : get2 u (b :: r) = if (b.toNat : Int) < 128 then (if (b.toNat : Int) = 0 then none else some (u + (b.toNat : Int) * 128, 2)) else get3 (u + (b.toNat : Int) % 128 * 128) r := rfl
theorem get3_cons (u : Int) (c : UInt8) (r : List UInt8) : get3 u (c :: r) = if (c.toNat : Int) < 128 then (if (c.toNat : Int) = 0 then none else some (u + (c.toNat : Int) * 16384, 3)) else none := rfl
theorem get2_nil (u : Int) : get2 u [] = none := rfl
theorem get3_nil (u : Int) : get3 u [] = none := rfl
theorem getL_nil : getL [] = none := rfl
theorem getL_a {a : UInt8} (r : List UInt8) (h : (a.toNat : Int) < 128) : getL (a :: r) = some ((a.toNat : Int), 1) := by rw [getL_cons, if_pos h]
theorem getL_a_end {a : UInt8} (h : ¬ (a.toNat : Int) < 128) : getL [a] = none := by rw [getL_cons, if_neg h, get2_nil]
theorem getL_b_zero {a b : UInt8} (r : List UInt8) (h : ¬ (a.toNat : Int) < 128) (h' : (b.toNat : Int) = 0) : getL (a :: b :: r) = none := by
  rw [getL_cons, if_neg h, get2_cons, if_pos (by omega), if_pos h']
theorem getL_b {a b : UInt8} (r : List UInt8) (h : ¬ (a.toNat : Int) < 128) (h1 : (b.toNat : Int) < 128) (h' : ¬ (b.toNat : Int) = 0) : getL (a :: b :: r) = some ((a.toNat : Int) % 128 + (b.toNat : Int) * 128, 2) := by
  rw [getL_cons, if_neg h, get2_cons, if_pos h1, if_neg h']
theorem getL_b_end {a b : UInt8} (h : ¬ (a.toNat : Int) < 128) (h1 : ¬ (b.toNat : Int) < 128) : getL [a, b] = none := by
  rw [getL_cons, if_neg h, get2_cons, if_neg h1, get3_nil]
theorem getL_c_zero {a b c : UInt8} (r : List UInt8) (h : ¬ (a.toNat : Int) < 128) (h1 : ¬ (b.toNat : Int) < 128) (h' : (c.toNat : Int) = 0) : getL (a :: b :: c :: r) = none := by
  rw [getL_cons, if_neg h, get2_cons, if_neg h1, get3_cons, if_pos (by omega), if_pos h']
theorem getL_c {a b c : UInt8} (r : List UInt8) (h : ¬ (a.toNat : Int) < 128) (h1 : ¬ (b.toNat : Int) < 128) (h2 : (c.toNat : Int) < 128) (h' : ¬ (c.toNat : Int) = 0) :
    getL (a :: b :: c :: r) = some ((a.toNat : Int) % 128 + (b.toNat : Int) % 128 * 128 + (c.toNat : Int) * 16384, 3) := by
  rw [getL_cons, if_neg h, get2_cons, if_neg h1, get3_cons, if_pos h2, if_neg h']
theorem getL_c_no {a b c : UInt8} (r : List UInt8) (h : ¬ (a.toNat : Int) < 128) (h1 : ¬ (b.toNat : Int) < 128) (h2 : ¬ (c.toNat : Int) < 128) : getL (a :: b :: c :: r) = none := by
  rw [getL_cons, if_neg h, get2_cons, if_neg h1, get3_cons, if_neg h2]

section
variable {s : ByteArray} {k : Nat}
theorem drop_two (h : k + 1 < s.size) : s.data.toList.drop k = s[k] :: s[k + 1] :: s.data.toList.drop (k + 1 + 1) := by
  rw [drop_cons (by omega), drop_cons h]
theorem drop_three (h : k + 1 + 1 < s.size) : s.data.toList.drop k = s[k] :: s[k + 1] :: s[k + 1 + 1] :: s.data.toList.drop (k + 1 + 1 + 1) := by
  rw [drop_two (by omega), drop_cons h]
theorem get_out (h : s.size ≤ k) : getL (s.data.toList.drop k) = none := (congrArg getL (drop_nil h)).trans rfl
theorem get_a (h : k < s.size) (a : ((s[k]).toNat : Int) < 128) : getL (s.data.toList.drop k) = some (((s[k]).toNat : Int), 1) :=
  (congrArg getL (drop_cons h)).trans (getL_a _ a)
theorem get_a_end (h : k < s.size) (a : ¬ ((s[k]).toNat : Int) < 128) (h' : s.size ≤ k + 1) : getL (s.data.toList.drop k) = none :=
  (congrArg getL ((drop_cons h).trans (congrArg _ (drop_nil h')))).trans (getL_a_end a)
theorem get_b_zero (h : k + 1 < s.size) (a : ¬ ((s[k]).toNat : Int) < 128) (b : ((s[k + 1]).toNat : Int) = 0) : getL (s.data.toList.drop k) = none :=
  (congrArg getL (drop_two h)).trans (getL_b_zero _ a b)
theorem get_b (h : k + 1 < s.size) (a : ¬ ((s[k]).toNat : Int) < 128) (b : ((s[k + 1]).toNat : Int) < 128) (b' : ¬ ((s[k + 1]).toNat : Int) = 0) :
    getL (s.data.toList.drop k) = some (((s[k]).toNat : Int) % 128 + ((s[k + 1]).toNat : Int) * 128, 2) :=
  (congrArg getL (drop_two h)).trans (getL_b _ a b b')
theorem get_b_end (h : k + 1 < s.size) (a : ¬ ((s[k]).toNat : Int) < 128) (b : ¬ ((s[k + 1]).toNat : Int) < 128) (h' : s.size ≤ k + 1 + 1) : getL (s.data.toList.drop k) = none :=
  (congrArg getL ((drop_two h).trans (congrArg _ (congrArg _ (drop_nil h'))))).trans (getL_b_end a b)
theorem get_c_zero (h : k + 1 + 1 < s.size) (a : ¬ ((s[k]).toNat : Int) < 128) (b : ¬ ((s[k + 1]).toNat : Int) < 128) (c : ((s[k + 1 + 1]).toNat : Int) = 0) : getL (s.data.toList.drop k) = none :=
  (congrArg getL (drop_three h)).trans (getL_c_zero _ a b c)
theorem get_c (h : k + 1 + 1 < s.size) (a : ¬ ((s[k]).toNat : Int) < 128) (b : ¬ ((s[k + 1]).toNat : Int) < 128) (c : ((s[k + 1 + 1]).toNat : Int) < 128) (c' : ¬ ((s[k + 1 + 1]).toNat : Int) = 0) :
    getL (s.data.toList.drop k) = some (((s[k]).toNat : Int) % 128 + ((s[k + 1]).toNat : Int) % 128 * 128 + ((s[k + 1 + 1]).toNat : Int) * 16384, 3) :=
  (congrArg getL (drop_three h)).trans (getL_c _ a b c c')
theorem get_c_no (h : k + 1 + 1 < s.size) (a : ¬ ((s[k]).toNat : Int) < 128) (b : ¬ ((s[k + 1]).toNat : Int) < 128) (c : ¬ ((s[k + 1 + 1]).toNat : Int) < 128) : getL (s.data.toList.drop k) = none :=
  (congrArg getL (drop_three h)).trans (getL_c_no _ a b c)
end

end Go.Proofs.YtoepcplbpochpaaDoor
