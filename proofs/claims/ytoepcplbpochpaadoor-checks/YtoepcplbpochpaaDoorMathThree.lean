/-
  Plain mathematics: a number's bytes are read as that number, whatever stands behind them; cut short, or drawn out by a byte of nought, they are none. No Go here.
-/
import Derived.Test.YtoepcplbpochpaaDoorMathTwo
namespace Go.Proofs.YtoepcplbpochpaaDoor

/-- A number's bytes. -/
def encB (n : Int) : List UInt8 := (encI n).map fun m => UInt8.ofNat m.toNat

theorem numS_data (n : Int) : (numS n).data.toList = encB n := rfl
theorem numS_size (n : Int) : (numS n).size = (encI n).length := strOfNums_size _

theorem toNat_of {x : Int} (h0 : 0 ≤ x) (h1 : x < 256) : ((UInt8.ofNat x.toNat).toNat : Int) = x := by
  rw [UInt8.toNat_ofNat', Nat.mod_eq_of_lt (by omega)]; omega

theorem encB_one {n : Int} (h : n < 128) : encB n = [UInt8.ofNat n.toNat] := by unfold encB; rw [enc_one h]; rfl
theorem encB_two {n : Int} (h : ¬ n < 128) (h' : n < 16384) : encB n = [UInt8.ofNat (n % 128 + 128).toNat, UInt8.ofNat (n / 128).toNat] := by unfold encB; rw [enc_two h h']; rfl
theorem encB_three {n : Int} (h' : ¬ n < 16384) : encB n = [UInt8.ofNat (n % 128 + 128).toNat, UInt8.ofNat (n / 128 % 128 + 128).toNat, UInt8.ofNat (n / 16384).toNat] := by unfold encB; rw [enc_three h']; rfl

theorem get_enc {n : Int} (h0 : 0 ≤ n) (h1 : n ≤ 2097151) (r : List UInt8) : getL (encB n ++ r) = some (n, (encI n).length) := by
  by_cases a : n < 128
  · rw [encB_one a, enc_one a]
    have e := toNat_of h0 (by omega : n < 256)
    rw [List.cons_append, getL_a _ (by omega), e]; rfl
  by_cases b : n < 16384
  · rw [encB_two a b, enc_two a b]
    have e1 := toNat_of (x := n % 128 + 128) (by omega) (by omega)
    have e2 := toNat_of (x := n / 128) (by omega) (by omega)
    rw [List.cons_append, List.cons_append, getL_b _ (by omega) (by omega) (by omega), e1, e2]
    simp only [List.length_cons, List.length_nil, Option.some.injEq, Prod.mk.injEq, and_true]
    omega
  · rw [encB_three b, enc_three b]
    have e1 := toNat_of (x := n % 128 + 128) (by omega) (by omega)
    have e2 := toNat_of (x := n / 128 % 128 + 128) (by omega) (by omega)
    have e3 := toNat_of (x := n / 16384) (by omega) (by omega)
    rw [List.cons_append, List.cons_append, List.cons_append, getL_c _ (by omega) (by omega) (by omega) (by omega), e1, e2, e3]
    simp only [List.length_cons, List.length_nil, Option.some.injEq, Prod.mk.injEq, and_true]
    omega

theorem enc_len (n : Int) : (encI n).length = if n < 128 then 1 else if n < 16384 then 2 else 3 := by
  unfold encI; split
  · rfl
  · split <;> rfl

/-- Bytes that all bear the mark 'more follows' are no number. -/
theorem get_open : ∀ l : List UInt8, (∀ a ∈ l, ¬ (a.toNat : Int) < 128) → getL l = none
  | [], _ => rfl
  | [a], h => getL_a_end (h a (by simp))
  | [a, b], h => getL_b_end (h a (by simp)) (h b (by simp))
  | a :: b :: c :: r, h => getL_c_no r (h a (by simp)) (h b (by simp)) (h c (by simp))

/-- The bytes that lead a nought must bear the mark: then it is no number. -/
theorem get_drawn : ∀ l : List UInt8, l ≠ [] → (∀ a ∈ l, ¬ (a.toNat : Int) < 128) → getL (l ++ [0]) = none
  | [], h, _ => absurd rfl h
  | [a], _, h => getL_b_zero [] (h a (by simp)) rfl
  | [a, b], _, h => getL_c_zero [] (h a (by simp)) (h b (by simp)) rfl
  | a :: b :: c :: r, _, h => getL_c_no (r ++ [0]) (h a (by simp)) (h b (by simp)) (h c (by simp))

/-- All bytes but the last. -/
theorem enc_front (n : Int) : ∀ a ∈ (encB n).dropLast, ¬ (a.toNat : Int) < 128 := by
  by_cases a : n < 128
  · rw [encB_one a]; simp
  by_cases b : n < 16384
  · rw [encB_two a b]
    have e1 := toNat_of (x := n % 128 + 128) (by omega) (by omega)
    intro x hx; simp only [List.dropLast_cons_cons, List.dropLast_singleton, List.mem_singleton] at hx; subst hx; omega
  · rw [encB_three b]
    have e1 := toNat_of (x := n % 128 + 128) (by omega) (by omega)
    have e2 := toNat_of (x := n / 128 % 128 + 128) (by omega) (by omega)
    intro x hx; simp only [List.dropLast_cons_cons, List.dropLast_singleton, List.mem_cons, List.not_mem_nil, or_false] at hx
    rcases hx with rfl | rfl <;> omega

/-- The last byte. -/
theorem enc_last {n : Int} (h0 : 0 ≤ n) (h1 : n ≤ 2097151) : ∃ x : UInt8, (encB n).dropLast ++ [x] = encB n ∧ (x.toNat : Int) < 128 := by
  by_cases a : n < 128
  · rw [encB_one a]; exact ⟨_, rfl, by rw [toNat_of (by omega) (by omega)]; omega⟩
  by_cases b : n < 16384
  · rw [encB_two a b]; exact ⟨_, rfl, by rw [toNat_of (by omega) (by omega)]; omega⟩
  · rw [encB_three b]; exact ⟨_, rfl, by rw [toNat_of (by omega) (by omega)]; omega⟩

end Go.Proofs.YtoepcplbpochpaaDoor
