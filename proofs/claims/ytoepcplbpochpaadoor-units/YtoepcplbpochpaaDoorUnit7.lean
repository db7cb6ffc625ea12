/-
  What leb.Get and lodgeref.Get answer, at every string and place.
-/
import Derived.Test.YtoepcplbpochpaaDoorUnit4
import Derived.Lib.Strings

namespace Go.Proofs.YtoepcplbpochpaaDoor
open Go.RowKit

theorem ret3 {a a' b b' c : Int} (h : a = a') (h' : b = b') : Ending.returned (.tuple #[.int .i64 a, .int .i64 b, .int .i64 c]) = Ending.returned (.tuple #[.int .i64 a', .int .i64 b', .int .i64 c]) := by rw [h, h']

set_option maxRecDepth 100000 in
set_option maxHeartbeats 1000000 in
theorem get_any (s : ByteArray) (i : Int) (w : World) (hs : s.size ≤ maxLen) (hi : i ≤ 9223372036854775807) :
    Calls Tryd.prog 88 #[.string s, .int .i64 i] w fun e w' => e = .returned (getR s i) ∧ w' = w := by
  unfold maxLen at hs
  by_cases h0 : i < 0
  · rw [getR_neg h0]
    go_enter Tryd.func88, Tryd.ntmps88
    go_wp2
    go_ret3
    exact ⟨rfl, rfl⟩
  obtain ⟨k, rfl⟩ := Int.eq_ofNat_of_zero_le (by omega : 0 ≤ i)
  by_cases hk : k < s.size
  case neg =>
    rw [getR_none (get_out (by omega))]
    go_enter Tryd.func88, Tryd.ntmps88
    go_wp2
    refine wp_loop_rounds 1 ?_; rw [rounds_succ]
    go_wp2
    go_ret3
    exact ⟨rfl, rfl⟩
  have ba : ((s[k]).toNat : Int) < 256 := by have := (s[k]).toNat_lt; omega
  by_cases a : ((s[k]).toNat : Int) < 128
  case pos =>
    rw [getR_some (get_a hk a)]
    go_enter Tryd.func88, Tryd.ntmps88
    go_wp2
    refine wp_loop_rounds 1 ?_; rw [rounds_succ]
    go_wp2
    all_goals go_ret3
    all_goals exact ⟨ret3 (by omega) (by omega), rfl⟩
  by_cases hk1 : k + 1 < s.size
  case neg =>
    rw [getR_none (get_a_end hk a (by omega))]
    go_enter Tryd.func88, Tryd.ntmps88
    go_wp2
    refine wp_loop_rounds 2 ?_; rw [rounds_succ]
    go_wp2
    rw [rounds_succ]
    go_wp2
    all_goals go_ret3
    all_goals exact ⟨rfl, rfl⟩
  have bb : ((s[k + 1]).toNat : Int) < 256 := by have := (s[k + 1]).toNat_lt; omega
  by_cases b : ((s[k + 1]).toNat : Int) < 128
  case pos =>
    by_cases b' : ((s[k + 1]).toNat : Int) = 0
    · rw [getR_none (get_b_zero hk1 a b')]
      go_enter Tryd.func88, Tryd.ntmps88
      go_wp2
      refine wp_loop_rounds 2 ?_; rw [rounds_succ]
      go_wp2
      rw [rounds_succ]
      go_wp2
      all_goals go_ret3
      all_goals exact ⟨rfl, rfl⟩
    · rw [getR_some (get_b hk1 a b b')]
      go_enter Tryd.func88, Tryd.ntmps88
      go_wp2
      refine wp_loop_rounds 2 ?_; rw [rounds_succ]
      go_wp2
      rw [rounds_succ]
      go_wp2
      all_goals go_ret3
      all_goals exact ⟨ret3 (by omega) (by omega), rfl⟩
  by_cases hk2 : k + 1 + 1 < s.size
  case neg =>
    rw [getR_none (get_b_end hk1 a b (by omega))]
    go_enter Tryd.func88, Tryd.ntmps88
    go_wp2
    refine wp_loop_rounds 3 ?_; rw [rounds_succ]
    go_wp2
    rw [rounds_succ]
    go_wp2
    rw [rounds_succ]
    go_wp2
    all_goals go_ret3
    all_goals exact ⟨rfl, rfl⟩
  have bc : ((s[k + 1 + 1]).toNat : Int) < 256 := by have := (s[k + 1 + 1]).toNat_lt; omega
  by_cases c : ((s[k + 1 + 1]).toNat : Int) < 128
  case neg =>
    rw [getR_none (get_c_no hk2 a b c)]
    go_enter Tryd.func88, Tryd.ntmps88
    go_wp2
    refine wp_loop_rounds 4 ?_; rw [rounds_succ]
    go_wp2
    rw [rounds_succ]
    go_wp2
    rw [rounds_succ]
    go_wp2
    rw [rounds_succ]
    go_wp2
    all_goals go_ret3
    all_goals exact ⟨rfl, rfl⟩
  by_cases c' : ((s[k + 1 + 1]).toNat : Int) = 0
  · rw [getR_none (get_c_zero hk2 a b c')]
    go_enter Tryd.func88, Tryd.ntmps88
    go_wp2
    refine wp_loop_rounds 3 ?_; rw [rounds_succ]
    go_wp2
    rw [rounds_succ]
    go_wp2
    rw [rounds_succ]
    go_wp2
    all_goals go_ret3
    all_goals exact ⟨rfl, rfl⟩
  · rw [getR_some (get_c hk2 a b c c')]
    go_enter Tryd.func88, Tryd.ntmps88
    go_wp2
    refine wp_loop_rounds 3 ?_; rw [rounds_succ]
    go_wp2
    rw [rounds_succ]
    go_wp2
    rw [rounds_succ]
    go_wp2
    all_goals go_ret3
    all_goals exact ⟨ret3 (by omega) (by omega), rfl⟩
end Go.Proofs.YtoepcplbpochpaaDoor

/-
  Plain mathematics: when the bytes of a number are a piece of a string. No Go here.
-/
namespace Go.Proofs.YtoepcplbpochpaaDoor

theorem numS_toList (n : Int) : (numS n).toList = (encI n).map fun m => UInt8.ofNat m.toNat := by
  rw [ByteArray.toList_eq]; rfl

theorem byte_eq {x : Int} {a : UInt8} (h0 : 0 ≤ x) (h1 : x < 256) : UInt8.ofNat x.toNat = a ↔ x = (a.toNat : Int) := by
  constructor
  · intro h
    have := congrArg UInt8.toNat h
    rw [UInt8.toNat_ofNat', Nat.mod_eq_of_lt (by omega)] at this
    omega
  · intro h
    apply UInt8.toNat_inj.1
    rw [UInt8.toNat_ofNat', Nat.mod_eq_of_lt (by omega)]
    omega

theorem byte_lt (a : UInt8) : (a.toNat : Int) < 256 := by have := a.toNat_lt; omega

theorem test1_iff (a : UInt8) (m : Int) (hm : m = (a.toNat : Int) % 128) : (encI m).map (fun m => UInt8.ofNat m.toNat) = [a] ↔ (a.toNat : Int) < 128 := by
  have := byte_lt a
  rw [enc_one (by omega), List.map_cons, List.map_nil, List.cons.injEq, byte_eq (by omega) (by omega)]
  simp only [and_true]
  omega

theorem test2_iff (a b : UInt8) (m : Int) (hm : m = (a.toNat : Int) % 128 + 128 * ((b.toNat : Int) % 128)) :
    (encI m).map (fun m => UInt8.ofNat m.toNat) = [a, b] ↔ 128 ≤ (a.toNat : Int) ∧ (b.toNat : Int) < 128 ∧ (b.toNat : Int) ≠ 0 := by
  have := byte_lt a
  have := byte_lt b
  by_cases h : m < 128
  · rw [enc_one h]; simp only [List.map_cons, List.map_nil, List.cons.injEq, reduceCtorEq, and_false, false_iff]; omega
  · rw [enc_two h (by omega), List.map_cons, List.map_cons, List.map_nil, List.cons.injEq, List.cons.injEq, byte_eq (by omega) (by omega), byte_eq (by omega) (by omega)]
    simp only [and_true]
    omega

theorem test3_iff (a b c : UInt8) (m : Int) (hm : m = (a.toNat : Int) % 128 + 128 * ((b.toNat : Int) % 128) + 128 * (128 * ((c.toNat : Int) % 128))) :
    (encI m).map (fun m => UInt8.ofNat m.toNat) = [a, b, c] ↔ 128 ≤ (a.toNat : Int) ∧ 128 ≤ (b.toNat : Int) ∧ (c.toNat : Int) < 128 ∧ (c.toNat : Int) ≠ 0 := by
  have := byte_lt a
  have := byte_lt b
  have := byte_lt c
  by_cases h : m < 128
  · rw [enc_one h]; simp only [List.map_cons, List.map_nil, List.cons.injEq, reduceCtorEq, and_false, false_iff]; omega
  by_cases h' : m < 16384
  · rw [enc_two h h']; simp only [List.map_cons, List.map_nil, List.cons.injEq, reduceCtorEq, and_false, false_iff]; omega
  · rw [enc_three h', List.map_cons, List.map_cons, List.map_cons, List.map_nil, List.cons.injEq, List.cons.injEq, List.cons.injEq, byte_eq (by omega) (by omega), byte_eq (by omega) (by omega), byte_eq (by omega) (by omega)]
    simp only [and_true]
    omega

section
variable {s : ByteArray} {k : Nat}
theorem ext1 (h : k < s.size) : (s.extract k (k + 1)).toList = [s[k]] := by
  rw [Lib.extract_toList, drop_cons h, show k + 1 - k = 1 by omega]; rfl
theorem ext2 (h : k + 1 < s.size) : (s.extract k (k + 1 + 1)).toList = [s[k], s[k + 1]] := by
  rw [Lib.extract_toList, drop_two h, show k + 1 + 1 - k = 2 by omega]; rfl
theorem ext3 (h : k + 1 + 1 < s.size) : (s.extract k (k + 1 + 1 + 1)).toList = [s[k], s[k + 1], s[k + 1 + 1]] := by
  rw [Lib.extract_toList, drop_three h, show k + 1 + 1 + 1 - k = 3 by omega]; rfl

theorem beq_of {x y : List UInt8} {p : Prop} (h : x = y ↔ p) (hp : p) : (x == y) = true := by simpa using h.2 hp
theorem beq_not {x y : List UInt8} {p : Prop} (h : x = y ↔ p) (hp : ¬ p) : (x == y) = false := by simpa using fun e => hp (h.1 e)

theorem t1_yes (h : k < s.size) (a : ((s[k]).toNat : Int) < 128) : ((numS (((s[k]).toNat : Int) % 128)).toList == (s.extract k (k + 1)).toList) = true := by
  rw [numS_toList, ext1 h]; exact beq_of (test1_iff _ _ rfl) a
theorem t1_no (h : k < s.size) (a : ¬ ((s[k]).toNat : Int) < 128) : ((numS (((s[k]).toNat : Int) % 128)).toList == (s.extract k (k + 1)).toList) = false := by
  rw [numS_toList, ext1 h]; exact beq_not (test1_iff _ _ rfl) a
theorem t2_yes (h : k + 1 < s.size) (p : 128 ≤ ((s[k]).toNat : Int) ∧ ((s[k + 1]).toNat : Int) < 128 ∧ ((s[k + 1]).toNat : Int) ≠ 0) :
    ((numS (((s[k]).toNat : Int) % 128 + 128 * (((s[k + 1]).toNat : Int) % 128))).toList == (s.extract k (k + 1 + 1)).toList) = true := by
  rw [numS_toList, ext2 h]; exact beq_of (test2_iff _ _ _ rfl) p
theorem t2_no (h : k + 1 < s.size) (p : ¬ (128 ≤ ((s[k]).toNat : Int) ∧ ((s[k + 1]).toNat : Int) < 128 ∧ ((s[k + 1]).toNat : Int) ≠ 0)) :
    ((numS (((s[k]).toNat : Int) % 128 + 128 * (((s[k + 1]).toNat : Int) % 128))).toList == (s.extract k (k + 1 + 1)).toList) = false := by
  rw [numS_toList, ext2 h]; exact beq_not (test2_iff _ _ _ rfl) p
theorem t3_yes (h : k + 1 + 1 < s.size) (p : 128 ≤ ((s[k]).toNat : Int) ∧ 128 ≤ ((s[k + 1]).toNat : Int) ∧ ((s[k + 1 + 1]).toNat : Int) < 128 ∧ ((s[k + 1 + 1]).toNat : Int) ≠ 0) :
    ((numS (((s[k]).toNat : Int) % 128 + 128 * (((s[k + 1]).toNat : Int) % 128) + 128 * (128 * (((s[k + 1 + 1]).toNat : Int) % 128)))).toList == (s.extract k (k + 1 + 1 + 1)).toList) = true := by
  rw [numS_toList, ext3 h]; exact beq_of (test3_iff _ _ _ _ rfl) p
theorem t3_no (h : k + 1 + 1 < s.size) (p : ¬ (128 ≤ ((s[k]).toNat : Int) ∧ 128 ≤ ((s[k + 1]).toNat : Int) ∧ ((s[k + 1 + 1]).toNat : Int) < 128 ∧ ((s[k + 1 + 1]).toNat : Int) ≠ 0)) :
    ((numS (((s[k]).toNat : Int) % 128 + 128 * (((s[k + 1]).toNat : Int) % 128) + 128 * (128 * (((s[k + 1 + 1]).toNat : Int) % 128)))).toList == (s.extract k (k + 1 + 1 + 1)).toList) = false := by
  rw [numS_toList, ext3 h]; exact beq_not (test3_iff _ _ _ _ rfl) p
end
end Go.Proofs.YtoepcplbpochpaaDoor

/-
  Plain mathematics: a number's bytes are read as that number, whatever stands behind them; cut short, or drawn out by a byte of nought, they are none. No Go here.
-/
namespace Go.Proofs.YtoepcplbpochpaaDoor

/-- A number's bytes. -/
def encB (n : Int) : List UInt8 := (encI n).map fun m => UInt8.ofNat m.toNat

theorem numS_data (n : Int) : (numS n).data.toList = encB n := rfl
theorem numS_size (n : Int) : (numS n).size = (encI n).length := strOfNums_size _

theorem toNat_of {x : Int} (h0 : 0 ≤ x) (h1 : x < 256) : ((UInt8.ofNat x.toNat).toNat : Int) = x := by
  rw [UInt8.toNat_ofNat', Nat.mod_eq_of_lt (by omega)]; omega

theorem encB_one {n : Int} (h : n < 128) : encB n = [UInt8.ofNat n.toNat] := by unfold encB; rw [enc_one h]; rfl
theorem encB_two {n : Int} (h : ¬ n < 128) (h' : n < 16384) : encB n = [UInt8.ofNat (n % 128 + 128).toNat, UInt8.ofNat (n / 128).toNat] := by unfold encB; rw [enc_two h h']; rfl
theorem encB_three {n : Int} (h' : ¬ n < 16384) : encB n = [UInt8.ofNat (n % 128 + 128).toNat, UInt8.ofNat (n / 128 % 128 + 128).toNat, UInt8.ofNat (n / 16384).toNat] := by unfold encB; rw [enc_three h']; rfl

theorem get_enc {n : Int} (h0 : 0 ≤ n) (h1 : n ≤ 2097151) (r : List UInt8) : getL (encB n ++ r) = some (n, (encI n).length) := by
  by_cases a : n < 128
  · rw [encB_one a, enc_one a]
    have e := toNat_of h0 (by omega : n < 256)
    rw [List.cons_append, getL_a _ (by omega), e]; rfl
  by_cases b : n < 16384
  · rw [encB_two a b, enc_two a b]
    have e1 := toNat_of (x := n % 128 + 128) (by omega) (by omega)
    have e2 := toNat_of (x := n / 128) (by omega) (by omega)
    rw [List.cons_append, List.cons_append, getL_b _ (by omega) (by omega) (by omega), e1, e2]
    simp only [List.length_cons, List.length_nil, Option.some.injEq, Prod.mk.injEq, and_true]
    omega
  · rw [encB_three b, enc_three b]
    have e1 := toNat_of (x := n % 128 + 128) (by omega) (by omega)
    have e2 := toNat_of (x := n / 128 % 128 + 128) (by omega) (by omega)
    have e3 := toNat_of (x := n / 16384) (by omega) (by omega)
    rw [List.cons_append, List.cons_append, List.cons_append, getL_c _ (by omega) (by omega) (by omega) (by omega), e1, e2, e3]
    simp only [List.length_cons, List.length_nil, Option.some.injEq, Prod.mk.injEq, and_true]
    omega

theorem enc_len (n : Int) : (encI n).length = if n < 128 then 1 else if n < 16384 then 2 else 3 := by
  unfold encI; split
  · rfl
  · split <;> rfl

/-- Bytes that all bear the mark 'more follows' are no number. -/
theorem get_open : ∀ l : List UInt8, (∀ a ∈ l, ¬ (a.toNat : Int) < 128) → getL l = none
  | [], _ => rfl
  | [a], h => getL_a_end (h a (by simp))
  | [a, b], h => getL_b_end (h a (by simp)) (h b (by simp))
  | a :: b :: c :: r, h => getL_c_no r (h a (by simp)) (h b (by simp)) (h c (by simp))

/-- The bytes that lead a nought must bear the mark: then it is no number. -/
theorem get_drawn : ∀ l : List UInt8, l ≠ [] → (∀ a ∈ l, ¬ (a.toNat : Int) < 128) → getL (l ++ [0]) = none
  | [], h, _ => absurd rfl h
  | [a], _, h => getL_b_zero [] (h a (by simp)) rfl
  | [a, b], _, h => getL_c_zero [] (h a (by simp)) (h b (by simp)) rfl
  | a :: b :: c :: r, _, h => getL_c_no (r ++ [0]) (h a (by simp)) (h b (by simp)) (h c (by simp))

/-- All bytes but the last. -/
theorem enc_front (n : Int) : ∀ a ∈ (encB n).dropLast, ¬ (a.toNat : Int) < 128 := by
  by_cases a : n < 128
  · rw [encB_one a]; simp
  by_cases b : n < 16384
  · rw [encB_two a b]
    have e1 := toNat_of (x := n % 128 + 128) (by omega) (by omega)
    intro x hx; simp only [List.dropLast_cons_cons, List.dropLast_singleton, List.mem_singleton] at hx; subst hx; omega
  · rw [encB_three b]
    have e1 := toNat_of (x := n % 128 + 128) (by omega) (by omega)
    have e2 := toNat_of (x := n / 128 % 128 + 128) (by omega) (by omega)
    intro x hx; simp only [List.dropLast_cons_cons, List.dropLast_singleton, List.mem_cons, List.not_mem_nil, or_false] at hx
    rcases hx with rfl | rfl <;> omega

/-- The last byte. -/
theorem enc_last {n : Int} (h0 : 0 ≤ n) (h1 : n ≤ 2097151) : ∃ x : UInt8, (encB n).dropLast ++ [x] = encB n ∧ (x.toNat : Int) < 128 := by
  by_cases a : n < 128
  · rw [encB_one a]; exact ⟨_, rfl, by rw [toNat_of (by omega) (by omega)]; omega⟩
  by_cases b : n < 16384
  · rw [encB_two a b]; exact ⟨_, rfl, by rw [toNat_of (by omega) (by omega)]; omega⟩
  · rw [encB_three b]; exact ⟨_, rfl, by rw [toNat_of (by omega) (by omega)]; omega⟩

end Go.Proofs.YtoepcplbpochpaaDoor

/-
  Plain mathematics: what is read is what was written, and in one way alone. No Go here.
-/
namespace Go.Proofs.YtoepcplbpochpaaDoor

/-- Numbers that can be written. -/
def Fine (x : Int) : Prop := 0 ≤ x ∧ x ≤ 2097151

theorem getL_sound : ∀ (l : List UInt8) (x : Int) (j : Nat), getL l = some (x, j) → Fine x ∧ l = encB x ++ l.drop j ∧ j = (encB x).length := by
  intro l x j h
  cases l with
  | nil => rw [getL_nil] at h; cases h
  | cons a r =>
    have ba := byte_lt a
    rw [getL_cons] at h
    by_cases ha : (a.toNat : Int) < 128
    · rw [if_pos ha] at h
      obtain ⟨rfl, rfl⟩ := Prod.mk.inj (Option.some.inj h)
      have e : encB (a.toNat : Int) = [a] := (test1_iff a _ (by omega)).2 ha
      rw [e]; exact ⟨⟨by omega, by omega⟩, rfl, rfl⟩
    rw [if_neg ha] at h
    cases r with
    | nil => rw [get2_nil] at h; cases h
    | cons b r =>
      have bb := byte_lt b
      rw [get2_cons] at h
      by_cases hb : (b.toNat : Int) < 128
      · rw [if_pos hb] at h
        by_cases hb0 : (b.toNat : Int) = 0
        · rw [if_pos hb0] at h; cases h
        rw [if_neg hb0] at h
        obtain ⟨rfl, rfl⟩ := Prod.mk.inj (Option.some.inj h)
        have e : encB ((a.toNat : Int) % 128 + (b.toNat : Int) * 128) = [a, b] := (test2_iff a b _ (by omega)).2 ⟨by omega, hb, hb0⟩
        rw [e]; exact ⟨⟨by omega, by omega⟩, rfl, rfl⟩
      rw [if_neg hb] at h
      cases r with
      | nil => rw [get3_nil] at h; cases h
      | cons c r =>
        have bc := byte_lt c
        rw [get3_cons] at h
        by_cases hc : (c.toNat : Int) < 128
        · rw [if_pos hc] at h
          by_cases hc0 : (c.toNat : Int) = 0
          · rw [if_pos hc0] at h; cases h
          rw [if_neg hc0] at h
          obtain ⟨rfl, rfl⟩ := Prod.mk.inj (Option.some.inj h)
          have e : encB ((a.toNat : Int) % 128 + (b.toNat : Int) % 128 * 128 + (c.toNat : Int) * 16384) = [a, b, c] := (test3_iff a b c _ (by omega)).2 ⟨by omega, by omega, hc, hc0⟩
          rw [e]; exact ⟨⟨by omega, by omega⟩, rfl, rfl⟩
        rw [if_neg hc] at h; cases h

/-- Numbers, one behind the other, as bytes. -/
def bytesOf (l : List Int) : List UInt8 := l.flatMap encB
theorem bytesOf_nil : bytesOf [] = [] := rfl
theorem bytesOf_cons (x : Int) (l : List Int) : bytesOf (x :: l) = encB x ++ bytesOf l := rfl
theorem bytesOf_app (l m : List Int) : bytesOf (l ++ m) = bytesOf l ++ bytesOf m := List.flatMap_append

theorem getL_enc {x : Int} (h : Fine x) (r : List UInt8) : getL (encB x ++ r) = some (x, (encB x).length) := by
  rw [get_enc h.1 h.2]; unfold encB; rw [List.length_map]

/-- One reading alone. -/
theorem uniq : ∀ (xs ys : List Int) (r t : List UInt8), (∀ x ∈ xs, Fine x) → (∀ y ∈ ys, Fine y) → xs.length ≤ ys.length → bytesOf xs ++ r = bytesOf ys ++ t →
    ∃ zs, ys = xs ++ zs ∧ r = bytesOf zs ++ t
  | [], ys, r, t, _, _, _, h => ⟨ys, rfl, h⟩
  | x :: xs, [], _, _, _, _, hl, _ => by simp at hl
  | x :: xs, y :: ys, r, t, hx, hy, hl, h => by
    rw [bytesOf_cons, bytesOf_cons, List.append_assoc, List.append_assoc] at h
    have h1 := getL_enc (hx x (by simp)) (bytesOf xs ++ r)
    rw [h, getL_enc (hy y (by simp))] at h1
    have e : y = x := (Prod.mk.inj (Option.some.inj h1)).1
    subst e
    have h2 := List.append_cancel_left h
    obtain ⟨zs, rfl, e2⟩ := uniq xs ys r t (fun x h => hx x (by simp [h])) (fun x h => hy x (by simp [h])) (by simpa using hl) h2
    exact ⟨zs, rfl, e2⟩

/-- What is left behind so many numbers begins with a number, if more numbers were written. -/
theorem none_short {xs ys : List Int} {r t : List UInt8} (hx : ∀ x ∈ xs, Fine x) (hy : ∀ y ∈ ys, Fine y) (hl : xs.length < ys.length) (h : bytesOf xs ++ r = bytesOf ys ++ t) (hn : getL r = none) : False := by
  obtain ⟨zs, rfl, rfl⟩ := uniq xs ys r t hx hy (by omega) h
  match zs with
  | [] => simp at hl
  | z :: zs =>
    rw [bytesOf_cons, List.append_assoc, getL_enc (hy z (by simp))] at hn
    cases hn

theorem bytesOf_inj {xs ys : List Int} (hx : ∀ x ∈ xs, Fine x) (hy : ∀ y ∈ ys, Fine y) (h : bytesOf xs = bytesOf ys) : xs = ys := by
  by_cases hl : xs.length ≤ ys.length
  · obtain ⟨zs, rfl, e⟩ := uniq xs ys [] [] hx hy hl (by simpa using h)
    match zs with
    | [] => simp
    | z :: zs =>
      have := getL_enc (hy z (by simp)) (bytesOf zs)
      rw [← bytesOf_cons] at this
      simp only [List.append_nil] at e
      rw [← e] at this; cases this
  · obtain ⟨zs, rfl, e⟩ := uniq ys xs [] [] hy hx (by omega) (by simpa using h.symm)
    match zs with
    | [] => simp
    | z :: zs =>
      have := getL_enc (hx z (by simp)) (bytesOf zs)
      rw [← bytesOf_cons] at this
      simp only [List.append_nil] at e
      rw [← e] at this; cases this
end Go.Proofs.YtoepcplbpochpaaDoor
