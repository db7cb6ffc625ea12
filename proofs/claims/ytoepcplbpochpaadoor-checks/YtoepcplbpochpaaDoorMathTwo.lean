/-
  Plain mathematics: when the bytes of a number are a piece of a string. No Go here.
-/
import Derived.Test.YtoepcplbpochpaaDoorMath
import Derived.Lib.Strings
namespace Go.Proofs.YtoepcplbpochpaaDoor

theorem numS_toList (n : Int) : (numS n).toList = (encI n).map fun m => UInt8.ofNat m.toNat := by
  rw [ByteArray.toList_eq]; rfl

theorem byte_eq {x : Int} {a : UInt8} (h0 : 0 ≤ x) (h1 : x < 256) : UInt8.ofNat x.toNat = a ↔ x = (a.toNat : Int) := by
  constructor
  · intro h
    have := congrArg UInt8.toNat h
    rw [UInt8.toNat_ofNat', Nat.mod_eq_of_lt (by omega)] at this
    omega
  · intro h
    apply UInt8.toNat_inj.1
    rw [UInt8.toNat_ofNat', Nat.mod_eq_of_lt (by omega)]
    omega

theorem byte_lt (a : UInt8) : (a.toNat : Int) < 256 := by have := a.toNat_lt; omega

theorem test1_iff (a : UInt8) (m : Int) (hm : m = (a.toNat : Int) % 128) : (encI m).map (fun m => UInt8.ofNat m.toNat) = [a] ↔ (a.toNat : Int) < 128 := by
  have := byte_lt a
  rw [enc_one (by omega), List.map_cons, List.map_nil, List.cons.injEq, byte_eq (by omega) (by omega)]
  simp only [and_true]
  omega

theorem test2_iff (a b : UInt8) (m : Int) (hm : m = (a.toNat : Int) % 128 + 128 * ((b.toNat : Int) % 128)) :
    (encI m).map (fun m => UInt8.ofNat m.toNat) = [a, b] ↔ 128 ≤ (a.toNat : Int) ∧ (b.toNat : Int) < 128 ∧ (b.toNat : Int) ≠ 0 := by
  have := byte_lt a
  have := byte_lt b
  by_cases h : m < 128
  · rw [enc_one h]; simp only [List.map_cons, List.map_nil, List.cons.injEq, reduceCtorEq, and_false, false_iff]; omega
  · rw [enc_two h (by omega), List.map_cons, List.map_cons, List.map_nil, List.cons.injEq, List.cons.injEq, byte_eq (by omega) (by omega), byte_eq (by omega) (by omega)]
    simp only [and_true]
    omega

theorem test3_iff (a b c : UInt8) (m : Int) (hm : m = (a.toNat : Int) % 128 + 128 * ((b.toNat : Int) % 128) + 128 * (128 * ((c.toNat : Int) % 128))) :
    (encI m).map (fun m => UInt8.ofNat m.toNat) = [a, b, c] ↔ 128 ≤ (a.toNat : Int) ∧ 128 ≤ (b.toNat : Int) ∧ (c.toNat : Int) < 128 ∧ (c.toNat : Int) ≠ 0 := by
  have := byte_lt a
  have := byte_lt b
  have := byte_lt c
  by_cases h : m < 128
  · rw [enc_one h]; simp only [List.map_cons, List.map_nil, List.cons.injEq, reduceCtorEq, and_false, false_iff]; omega
  by_cases h' : m < 16384
  · rw [enc_two h h']; simp only [List.map_cons, List.map_nil, List.cons.injEq, reduceCtorEq, and_false, false_iff]; omega
  · rw [enc_three h', List.map_cons, List.map_cons, List.map_cons, List.map_nil, List.cons.injEq, List.cons.injEq, List.cons.injEq, byte_eq (by omega) (by omega), byte_eq (by omega) (by omega), byte_eq (by omega) (by omega)]
    simp only [and_true]
    omega

section
variable {s : ByteArray} {k : Nat}
theorem ext1 (h : k < s.size) : (s.extract k (k + 1)).toList = [s[k]] := by
  rw [Lib.extract_toList, drop_cons h, show k + 1 - k = 1 by omega]; rfl
theorem ext2 (h : k + 1 < s.size) : (s.extract k (k + 1 + 1)).toList = [s[k], s[k + 1]] := by
  rw [Lib.extract_toList, drop_two h, show k + 1 + 1 - k = 2 by omega]; rfl
theorem ext3 (h : k + 1 + 1 < s.size) : (s.extract k (k + 1 + 1 + 1)).toList = [s[k], s[k + 1], s[k + 1 + 1]] := by
  rw [Lib.extract_toList, drop_three h, show k + 1 + 1 + 1 - k = 3 by omega]; rfl

theorem beq_of {x y : List UInt8} {p : Prop} (h : x = y ↔ p) (hp : p) : (x == y) = true := by simpa using h.2 hp
theorem beq_not {x y : List UInt8} {p : Prop} (h : x = y ↔ p) (hp : ¬ p) : (x == y) = false := by simpa using fun e => hp (h.1 e)

theorem t1_yes (h : k < s.size) (a : ((s[k]).toNat : Int) < 128) : ((numS (((s[k]).toNat : Int) % 128)).toList == (s.extract k (k + 1)).toList) = true := by
  rw [numS_toList, ext1 h]; exact beq_of (test1_iff _ _ rfl) a
theorem t1_no (h : k < s.size) (a : ¬ ((s[k]).toNat : Int) < 128) : ((numS (((s[k]).toNat : Int) % 128)).toList == (s.extract k (k + 1)).toList) = false := by
  rw [numS_toList, ext1 h]; exact beq_not (test1_iff _ _ rfl) a
theorem t2_yes (h : k + 1 < s.size) (p : 128 ≤ ((s[k]).toNat : Int) ∧ ((s[k + 1]).toNat : Int) < 128 ∧ ((s[k + 1]).toNat : Int) ≠ 0) :
    ((numS (((s[k]).toNat : Int) % 128 + 128 * (((s[k + 1]).toNat : Int) % 128))).toList == (s.extract k (k + 1 + 1)).toList) = true := by
  rw [numS_toList, ext2 h]; exact beq_of (test2_iff _ _ _ rfl) p
theorem t2_no (h : k + 1 < s.size) (p : ¬ (128 ≤ ((s[k]).toNat : Int) ∧ ((s[k + 1]).toNat : Int) < 128 ∧ ((s[k + 1]).toNat : Int) ≠ 0)) :
    ((numS (((s[k]).toNat : Int) % 128 + 128 * (((s[k + 1]).toNat : Int) % 128))).toList == (s.extract k (k + 1 + 1)).toList) = false := by
  rw [numS_toList, ext2 h]; exact beq_not (test2_iff _ _ _ rfl) p
theorem t3_yes (h : k + 1 + 1 < s.size) (p : 128 ≤ ((s[k]).toNat : Int) ∧ 128 ≤ ((s[k + 1]).toNat : Int) ∧ ((s[k + 1 + 1]).toNat : Int) < 128 ∧ ((s[k + 1 + 1]).toNat : Int) ≠ 0) :
    ((numS (((s[k]).toNat : Int) % 128 + 128 * (((s[k + 1]).toNat : Int) % 128) + 128 * (128 * (((s[k + 1 + 1]).toNat : Int) % 128)))).toList == (s.extract k (k + 1 + 1 + 1)).toList) = true := by
  rw [numS_toList, ext3 h]; exact beq_of (test3_iff _ _ _ _ rfl) p
theorem t3_no (h : k + 1 + 1 < s.size) (p : ¬ (128 ≤ ((s[k]).toNat : Int) ∧ 128 ≤ ((s[k + 1]).toNat : Int) ∧ ((s[k + 1 + 1]).toNat : Int) < 128 ∧ ((s[k + 1 + 1]).toNat : Int) ≠ 0)) :
    ((numS (((s[k]).toNat : Int) % 128 + 128 * (((s[k + 1]).toNat : Int) % 128) + 128 * (128 * (((s[k + 1 + 1]).toNat : Int) % 128)))).toList == (s.extract k (k + 1 + 1 + 1)).toList) = false := by
  rw [numS_toList, ext3 h]; exact beq_not (test3_iff _ _ _ _ rfl) p
end
end Go.Proofs.YtoepcplbpochpaaDoor
