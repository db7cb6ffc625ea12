/-
  What leb.Encode answers, of every list of ranges.
-/
import Derived.Test.YtoepcplbpochpaaDoorWritten
namespace Go.Proofs.YtoepcplbpochpaaDoor
open Go.RowKit

/-- The numbers that are written of a table; its bytes as a string. -/
def flat (R : List Rg) : List Int := (R.length : Int) :: R.flatMap nums
def flatTo (R : List Rg) (k : Nat) : List Int := (R.length : Int) :: (R.take k).flatMap nums
def encAll (R : List Rg) : ByteArray := wrS (flat R)

theorem numS_wr (x : Int) : numS x = wrS [x] := by
  apply Go.WideShapes.bytes_inj
  rw [numS_data, wrS_data]; unfold bytesOf; simp
theorem flatMap_len (R : List Rg) : (R.flatMap nums).length = 5 * R.length := by
  induction R with
  | nil => rfl
  | cons r R ih => rw [List.flatMap_cons, List.length_append, ih, List.length_cons]; show 5 + _ = _; omega
theorem flatTo_len (R : List Rg) (k : Nat) : (flatTo R k).length ≤ 1 + 5 * k := by
  unfold flatTo; rw [List.length_cons, flatMap_len, List.length_take]; omega
theorem take_rg (R : List Rg) (k : Nat) (h : k < R.length) : R.take (k + 1) = R.take k ++ [rg R k] := by
  rw [List.take_succ_eq_append_getElem h]; unfold rg; rw [List.getD_eq_getElem?_getD, List.getElem?_eq_getElem h]; rfl
theorem flatTo_succ (R : List Rg) (k : Nat) (h : k < R.length) : flatTo R (k + 1) = flatTo R k ++ nums (rg R k) := by
  unfold flatTo; rw [take_rg R k h, List.flatMap_append]; simp
theorem flatTo_end (R : List Rg) : flatTo R R.length = flat R := by unfold flatTo flat; rw [List.take_length]

theorem isTab_len {R : List Rg} (h : isTab R = true) : R.length ≤ 200 := by
  unfold isTab at h; rw [Bool.and_eq_true, decide_eq_true_eq] at h; exact h.1
theorem isTab_rg {R : List Rg} (h : isTab R = true) {k : Nat} (hk : k < R.length) : isRg (rg R k) = true := by
  unfold isTab tabTo at h; rw [Bool.and_eq_true, List.all_eq_true] at h
  have := h.2 k (by rw [List.mem_range]; exact hk)
  rw [Bool.and_eq_true] at this; exact this.1

/-- What Encode answers. -/
def encV (R : List Rg) : Value := if isTab R = true then .tuple #[.string (encAll R), .int .i64 0] else .tuple #[.string ByteArray.empty, .int .i64 10]
theorem encV_yes {R : List Rg} (h : isTab R = true) : encV R = .tuple #[.string (encAll R), .int .i64 0] := by unfold encV; rw [if_pos h]
theorem encV_no {R : List Rg} (h : isTab R = false) : encV R = .tuple #[.string ByteArray.empty, .int .i64 10] := by unfold encV; rw [if_neg (by rw [h]; decide)]

theorem ret_str2 {a b : ByteArray} {z : Int} (h : a = b) : Ending.returned (.tuple #[.string a, .int .i64 z]) = .returned (.tuple #[.string b, .int .i64 z]) := by rw [h]

end Go.Proofs.YtoepcplbpochpaaDoor
