/-
  Plain mathematics: a number's bytes are read as that number, whatever stands behind them; cut short, or drawn out by a byte of nought, they are none. No Go here.
-/
import Derived.Test.YtoepcplbpochpabDoorPart8

namespace Go.Proofs.YtoepcplbpochpabDoor

/-- A number's bytes. -/
def encB (n : Int) : List UInt8 := (encI n).map fun m => UInt8.ofNat m.toNat

theorem numS_data (n : Int) : (numS n).data.toList = encB n := rfl
theorem numS_size (n : Int) : (numS n).size = (encI n).length := strOfNums_size _

theorem toNat_of {x : Int} (h0 : 0 ≤ x) (h1 : x < 256) : ((UInt8.ofNat x.toNat).toNat : Int) = x := by
  rw [UInt8.toNat_ofNat', Nat.mod_eq_of_lt (by omega)]; omega

theorem encB_one {n : Int} (h : n < 128) : encB n = [UInt8.ofNat n.toNat] := by unfold encB; rw [enc_one h]; rfl
theorem encB_two {n : Int} (h : ¬ n < 128) (h' : n < 16384) : encB n = [UInt8.ofNat (n % 128 + 128).toNat, UInt8.ofNat (n / 128).toNat] := by unfold encB; rw [enc_two h h']; rfl
theorem encB_three {n : Int} (h' : ¬ n < 16384) : encB n = [UInt8.ofNat (n % 128 + 128).toNat, UInt8.ofNat (n / 128 % 128 + 128).toNat, UInt8.ofNat (n / 16384).toNat] := by unfold encB; rw [enc_three h']; rfl

theorem get_enc {n : Int} (h0 : 0 ≤ n) (h1 : n ≤ 2097151) (r : List UInt8) : getL (encB n ++ r) = some (n, (encI n).length) := by
  by_cases a : n < 128
  · rw [encB_one a, enc_one a]
    have e := toNat_of h0 (by omega : n < 256)
    rw [List.cons_append, getL_a _ (by omega), e]; rfl
  by_cases b : n < 16384
  · rw [encB_two a b, enc_two a b]
    have e1 := toNat_of (x := n % 128 + 128) (by omega) (by omega)
    have e2 := toNat_of (x := n / 128) (by omega) (by omega)
    rw [List.cons_append, List.cons_append, getL_b _ (by omega) (by omega) (by omega), e1, e2]
    simp only [List.length_cons, List.length_nil, Option.some.injEq, Prod.mk.injEq, and_true]
    omega
  · rw [encB_three b, enc_three b]
    have e1 := toNat_of (x := n % 128 + 128) (by omega) (by omega)
    have e2 := toNat_of (x := n / 128 % 128 + 128) (by omega) (by omega)
    have e3 := toNat_of (x := n / 16384) (by omega) (by omega)
    rw [List.cons_append, List.cons_append, List.cons_append, getL_c _ (by omega) (by omega) (by omega) (by omega), e1, e2, e3]
    simp only [List.length_cons, List.length_nil, Option.some.injEq, Prod.mk.injEq, and_true]
    omega

theorem enc_len (n : Int) : (encI n).length = if n < 128 then 1 else if n < 16384 then 2 else 3 := by
  unfold encI; split
  · rfl
  · split <;> rfl

/-- Bytes that all bear the mark 'more follows' are no number. -/
theorem get_open : ∀ l : List UInt8, (∀ a ∈ l, ¬ (a.toNat : Int) < 128) → getL l = none
  | [], _ => rfl
  | [a], h => getL_a_end (h a (by simp))
  | [a, b], h => getL_b_end (h a (by simp)) (h b (by simp))
  | a :: b :: c :: r, h => getL_c_no r (h a (by simp)) (h b (by simp)) (h c (by simp))

/-- The bytes that lead a nought must bear the mark: then it is no number. -/
theorem get_drawn : ∀ l : List UInt8, l ≠ [] → (∀ a ∈ l, ¬ (a.toNat : Int) < 128) → getL (l ++ [0]) = none
  | [], h, _ => absurd rfl h
  | [a], _, h => getL_b_zero [] (h a (by simp)) rfl
  | [a, b], _, h => getL_c_zero [] (h a (by simp)) (h b (by simp)) rfl
  | a :: b :: c :: r, _, h => getL_c_no (r ++ [0]) (h a (by simp)) (h b (by simp)) (h c (by simp))

/-- All bytes but the last. -/
theorem enc_front (n : Int) : ∀ a ∈ (encB n).dropLast, ¬ (a.toNat : Int) < 128 := by
  by_cases a : n < 128
  · rw [encB_one a]; simp
  by_cases b : n < 16384
  · rw [encB_two a b]
    have e1 := toNat_of (x := n % 128 + 128) (by omega) (by omega)
    intro x hx; simp only [List.dropLast_cons_cons, List.dropLast_singleton, List.mem_singleton] at hx; subst hx; omega
  · rw [encB_three b]
    have e1 := toNat_of (x := n % 128 + 128) (by omega) (by omega)
    have e2 := toNat_of (x := n / 128 % 128 + 128) (by omega) (by omega)
    intro x hx; simp only [List.dropLast_cons_cons, List.dropLast_singleton, List.mem_cons, List.not_mem_nil, or_false] at hx
    rcases hx with rfl | rfl <;> omega

/-- The last byte. -/
theorem enc_last {n : Int} (h0 : 0 ≤ n) (h1 : n ≤ 2097151) : ∃ x : UInt8, (encB n).dropLast ++ [x] = encB n ∧ (x.toNat : Int) < 128 := by
  by_cases a : n < 128
  · rw [encB_one a]; exact ⟨_, rfl, by rw [toNat_of (by omega) (by omega)]; omega⟩
  by_cases b : n < 16384
  · rw [encB_two a b]; exact ⟨_, rfl, by rw [toNat_of (by omega) (by omega)]; omega⟩
  · rw [encB_three b]; exact ⟨_, rfl, by rw [toNat_of (by omega) (by omega)]; omega⟩

end Go.Proofs.YtoepcplbpochpabDoor

/-
  Plain mathematics: what is read is what was written, and in one way alone. No Go here.
-/
namespace Go.Proofs.YtoepcplbpochpabDoor

/-- Numbers that can be written. -/
def Fine (x : Int) : Prop := 0 ≤ x ∧ x ≤ 2097151

theorem getL_sound : ∀ (l : List UInt8) (x : Int) (j : Nat), getL l = some (x, j) → Fine x ∧ l = encB x ++ l.drop j ∧ j = (encB x).length := by
  intro l x j h
  cases l with
  | nil => rw [getL_nil] at h; cases h
  | cons a r =>
    have ba := byte_lt a
    rw [getL_cons] at h
    by_cases ha : (a.toNat : Int) < 128
    · rw [if_pos ha] at h
      obtain ⟨rfl, rfl⟩ := Prod.mk.inj (Option.some.inj h)
      have e : encB (a.toNat : Int) = [a] := (test1_iff a _ (by omega)).2 ha
      rw [e]; exact ⟨⟨by omega, by omega⟩, rfl, rfl⟩
    rw [if_neg ha] at h
    cases r with
    | nil => rw [get2_nil] at h; cases h
    | cons b r =>
      have bb := byte_lt b
      rw [get2_cons] at h
      by_cases hb : (b.toNat : Int) < 128
      · rw [if_pos hb] at h
        by_cases hb0 : (b.toNat : Int) = 0
        · rw [if_pos hb0] at h; cases h
        rw [if_neg hb0] at h
        obtain ⟨rfl, rfl⟩ := Prod.mk.inj (Option.some.inj h)
        have e : encB ((a.toNat : Int) % 128 + (b.toNat : Int) * 128) = [a, b] := (test2_iff a b _ (by omega)).2 ⟨by omega, hb, hb0⟩
        rw [e]; exact ⟨⟨by omega, by omega⟩, rfl, rfl⟩
      rw [if_neg hb] at h
      cases r with
      | nil => rw [get3_nil] at h; cases h
      | cons c r =>
        have bc := byte_lt c
        rw [get3_cons] at h
        by_cases hc : (c.toNat : Int) < 128
        · rw [if_pos hc] at h
          by_cases hc0 : (c.toNat : Int) = 0
          · rw [if_pos hc0] at h; cases h
          rw [if_neg hc0] at h
          obtain ⟨rfl, rfl⟩ := Prod.mk.inj (Option.some.inj h)
          have e : encB ((a.toNat : Int) % 128 + (b.toNat : Int) % 128 * 128 + (c.toNat : Int) * 16384) = [a, b, c] := (test3_iff a b c _ (by omega)).2 ⟨by omega, by omega, hc, hc0⟩
          rw [e]; exact ⟨⟨by omega, by omega⟩, rfl, rfl⟩
        rw [if_neg hc] at h; cases h

/-- Numbers, one behind the other, as bytes. -/
def bytesOf (l : List Int) : List UInt8 := l.flatMap encB
theorem bytesOf_nil : bytesOf [] = [] := rfl
theorem bytesOf_cons (x : Int) (l : List Int) : bytesOf (x :: l) = encB x ++ bytesOf l := rfl
theorem bytesOf_app (l m : List Int) : bytesOf (l ++ m) = bytesOf l ++ bytesOf m := List.flatMap_append

theorem getL_enc {x : Int} (h : Fine x) (r : List UInt8) : getL (encB x ++ r) = some (x, (encB x).length) := by
  rw [get_enc h.1 h.2]; unfold encB; rw [List.length_map]

/-- One reading alone. -/
theorem uniq : ∀ (xs ys : List Int) (r t : List UInt8), (∀ x ∈ xs, Fine x) → (∀ y ∈ ys, Fine y) → xs.length ≤ ys.length → bytesOf xs ++ r = bytesOf ys ++ t →
    ∃ zs, ys = xs ++ zs ∧ r = bytesOf zs ++ t
  | [], ys, r, t, _, _, _, h => ⟨ys, rfl, h⟩
  | x :: xs, [], _, _, _, _, hl, _ => by simp at hl
  | x :: xs, y :: ys, r, t, hx, hy, hl, h => by
    rw [bytesOf_cons, bytesOf_cons, List.append_assoc, List.append_assoc] at h
    have h1 := getL_enc (hx x (by simp)) (bytesOf xs ++ r)
    rw [h, getL_enc (hy y (by simp))] at h1
    have e : y = x := (Prod.mk.inj (Option.some.inj h1)).1
    subst e
    have h2 := List.append_cancel_left h
    obtain ⟨zs, rfl, e2⟩ := uniq xs ys r t (fun x h => hx x (by simp [h])) (fun x h => hy x (by simp [h])) (by simpa using hl) h2
    exact ⟨zs, rfl, e2⟩

/-- What is left behind so many numbers begins with a number, if more numbers were written. -/
theorem none_short {xs ys : List Int} {r t : List UInt8} (hx : ∀ x ∈ xs, Fine x) (hy : ∀ y ∈ ys, Fine y) (hl : xs.length < ys.length) (h : bytesOf xs ++ r = bytesOf ys ++ t) (hn : getL r = none) : False := by
  obtain ⟨zs, rfl, rfl⟩ := uniq xs ys r t hx hy (by omega) h
  match zs with
  | [] => simp at hl
  | z :: zs =>
    rw [bytesOf_cons, List.append_assoc, getL_enc (hy z (by simp))] at hn
    cases hn

theorem bytesOf_inj {xs ys : List Int} (hx : ∀ x ∈ xs, Fine x) (hy : ∀ y ∈ ys, Fine y) (h : bytesOf xs = bytesOf ys) : xs = ys := by
  by_cases hl : xs.length ≤ ys.length
  · obtain ⟨zs, rfl, e⟩ := uniq xs ys [] [] hx hy hl (by simpa using h)
    match zs with
    | [] => simp
    | z :: zs =>
      have := getL_enc (hy z (by simp)) (bytesOf zs)
      rw [← bytesOf_cons] at this
      simp only [List.append_nil] at e
      rw [← e] at this; cases this
  · obtain ⟨zs, rfl, e⟩ := uniq ys xs [] [] hy hx (by omega) (by simpa using h.symm)
    match zs with
    | [] => simp
    | z :: zs =>
      have := getL_enc (hx z (by simp)) (bytesOf zs)
      rw [← bytesOf_cons] at this
      simp only [List.append_nil] at e
      rw [← e] at this; cases this
end Go.Proofs.YtoepcplbpochpabDoor

/-
  Lists of numbers as bytes: what lodgeref.written and leb.rangeBytes answer.
-/
namespace Go.Proofs.YtoepcplbpochpabDoor
open Go.RowKit

/-- Numbers, one behind the other, as a string. -/
def wrS (l : List Int) : ByteArray := ⟨(bytesOf l).toArray⟩

theorem wrS_nil : wrS [] = ⟨#[]⟩ := rfl
theorem wrS_data (l : List Int) : (wrS l).data.toList = bytesOf l := rfl
theorem wrS_snoc (l : List Int) (x : Int) : wrS l ++ numS x = wrS (l ++ [x]) := by
  apply Go.WideShapes.bytes_inj
  rw [ByteArray.data_append, Array.toList_append, wrS_data, numS_data, wrS_data]
  unfold bytesOf
  rw [List.flatMap_append]; simp
theorem wrS_app (l m : List Int) : wrS l ++ wrS m = wrS (l ++ m) := by
  apply Go.WideShapes.bytes_inj
  rw [ByteArray.data_append, Array.toList_append, wrS_data, wrS_data, wrS_data]
  unfold bytesOf
  rw [List.flatMap_append]
theorem encB_le (x : Int) : (encB x).length ≤ 3 := by unfold encB; rw [List.length_map, enc_len]; split <;> (try split) <;> omega
theorem wrS_size_le (l : List Int) : (wrS l).size ≤ 3 * l.length := by
  rw [Lib.size_eq, wrS_data]; unfold bytesOf
  induction l with
  | nil => simp
  | cons x r ih => rw [List.flatMap_cons, List.length_append, List.length_cons]; have := encB_le x; omega

/-- The i-th number of a list. -/
theorem take_nth (l : List Int) (k : Nat) (h : k < l.length) : l.take (k + 1) = l.take k ++ [nth l k] := by
  rw [List.take_succ_eq_append_getElem h]; unfold nth; rw [List.getD_eq_getElem?_getD, List.getElem?_eq_getElem h]; rfl

theorem ret_str {a b : ByteArray} (h : a = b) : Ending.returned (.string a) = .returned (.string b) := by rw [h]

/-- The five numbers that are written of a range. -/
def nums (r : Rg) : List Int := [r.v, r.f, r.t - r.f, r.k, r.a]

theorem nums_ok {r : Rg} (h : isRg r = true) : ∀ i, i < 5 → 0 ≤ nth (nums r) i ∧ nth (nums r) i ≤ 65535 := by
  unfold isRg at h
  rw [decide_eq_true_eq] at h
  intro i hi
  match i, hi with
  | 0, _ => show 0 ≤ r.v ∧ r.v ≤ 65535; omega
  | 1, _ => show 0 ≤ r.f ∧ r.f ≤ 65535; omega
  | 2, _ => show 0 ≤ r.t - r.f ∧ r.t - r.f ≤ 65535; omega
  | 3, _ => show 0 ≤ r.k ∧ r.k ≤ 65535; omega
  | 4, _ => show 0 ≤ r.a ∧ r.a ≤ 65535; omega

end Go.Proofs.YtoepcplbpochpabDoor

/-
  What leb.getRange answers: five numbers, one behind the other, or the first fault.
-/
namespace Go.Proofs.YtoepcplbpochpabDoor
open Go.RowKit

/-- Get of s at the place q gives the number x and the place p; or it is refused. -/
def Gives (s : ByteArray) (q x p : Int) : Prop := ∀ w, Calls Tryd.prog 46 #[.string s, .int .i64 q] w fun e w' => e = .returned (.tuple #[.int .i64 x, .int .i64 p, .int .i64 0]) ∧ w' = w
def Fails (s : ByteArray) (q : Int) : Prop := ∀ w, Calls Tryd.prog 46 #[.string s, .int .i64 q] w fun e w' => e = .returned (.tuple #[.int .i64 0, .int .i64 0, .int .i64 14]) ∧ w' = w

set_option maxRecDepth 100000 in
set_option maxHeartbeats 1000000 in
theorem getRange_bad0 (s : ByteArray) (q0 : Int) (w : World) (b : Fails s q0) :
    Calls Tryd.prog 47 #[.string s, .int .i64 q0] w fun e w' => e = .returned (.tuple #[.agg #[.int .i64 0, .int .i64 0, .int .i64 0, .int .i64 0, .int .i64 0], .int .i64 0, .int .i64 14]) ∧ Below w.heap.size w w' := by
  go_enter Tryd.func47, Tryd.ntmps47
  go_wp2
  refine wp_loop_rounds 6 ?_; rw [rounds_succ]
  go_wp2_with fail
  refine (b _).mono ?_
  rintro e w' ⟨rfl, hw⟩
  subst hw
  go_wp2
  exact bodyPost_ret (v := .tuple #[.agg #[.int .i64 0, .int .i64 0, .int .i64 0, .int .i64 0, .int .i64 0], .int .i64 0, .int .i64 14]) (by simp [results, Tryd.results47, go_sem]) rfl ⟨rfl, (((Below.refl _ _).alloc (Nat.le_refl _) _).alloc (by simp) _)⟩

set_option maxRecDepth 100000 in
set_option maxHeartbeats 1000000 in
theorem getRange_bad1 (s : ByteArray) (q0 q1 x0 : Int) (w : World) (g0 : Gives s q0 x0 q1) (b : Fails s q1) :
    Calls Tryd.prog 47 #[.string s, .int .i64 q0] w fun e w' => e = .returned (.tuple #[.agg #[.int .i64 0, .int .i64 0, .int .i64 0, .int .i64 0, .int .i64 0], .int .i64 0, .int .i64 14]) ∧ Below w.heap.size w w' := by
  go_enter Tryd.func47, Tryd.ntmps47
  go_wp2
  refine wp_loop_rounds 6 ?_; rw [rounds_succ]
  go_wp2_with fail
  refine (g0 _).mono ?_
  rintro e w' ⟨rfl, hw⟩
  subst hw
  go_wp2_with fail
  rw [rounds_succ]
  go_wp2_with fail
  refine (b _).mono ?_
  rintro e w' ⟨rfl, hw⟩
  subst hw
  go_wp2
  exact bodyPost_ret (v := .tuple #[.agg #[.int .i64 0, .int .i64 0, .int .i64 0, .int .i64 0, .int .i64 0], .int .i64 0, .int .i64 14]) (by simp [results, Tryd.results47, go_sem]) rfl ⟨rfl, (((Below.refl _ _).alloc (Nat.le_refl _) _).alloc (by simp) _)⟩

set_option maxRecDepth 100000 in
set_option maxHeartbeats 1000000 in
theorem getRange_bad2 (s : ByteArray) (q0 q1 q2 x0 x1 : Int) (w : World) (g0 : Gives s q0 x0 q1) (g1 : Gives s q1 x1 q2) (b : Fails s q2) :
    Calls Tryd.prog 47 #[.string s, .int .i64 q0] w fun e w' => e = .returned (.tuple #[.agg #[.int .i64 0, .int .i64 0, .int .i64 0, .int .i64 0, .int .i64 0], .int .i64 0, .int .i64 14]) ∧ Below w.heap.size w w' := by
  go_enter Tryd.func47, Tryd.ntmps47
  go_wp2
  refine wp_loop_rounds 6 ?_; rw [rounds_succ]
  go_wp2_with fail
  refine (g0 _).mono ?_
  rintro e w' ⟨rfl, hw⟩
  subst hw
  go_wp2_with fail
  rw [rounds_succ]
  go_wp2_with fail
  refine (g1 _).mono ?_
  rintro e w' ⟨rfl, hw⟩
  subst hw
  go_wp2_with fail
  rw [rounds_succ]
  go_wp2_with fail
  refine (b _).mono ?_
  rintro e w' ⟨rfl, hw⟩
  subst hw
  go_wp2
  exact bodyPost_ret (v := .tuple #[.agg #[.int .i64 0, .int .i64 0, .int .i64 0, .int .i64 0, .int .i64 0], .int .i64 0, .int .i64 14]) (by simp [results, Tryd.results47, go_sem]) rfl ⟨rfl, (((Below.refl _ _).alloc (Nat.le_refl _) _).alloc (by simp) _)⟩

set_option maxRecDepth 100000 in
set_option maxHeartbeats 1000000 in
theorem getRange_bad3 (s : ByteArray) (q0 q1 q2 q3 x0 x1 x2 : Int) (w : World) (g0 : Gives s q0 x0 q1) (g1 : Gives s q1 x1 q2) (g2 : Gives s q2 x2 q3) (b : Fails s q3) :
    Calls Tryd.prog 47 #[.string s, .int .i64 q0] w fun e w' => e = .returned (.tuple #[.agg #[.int .i64 0, .int .i64 0, .int .i64 0, .int .i64 0, .int .i64 0], .int .i64 0, .int .i64 14]) ∧ Below w.heap.size w w' := by
  go_enter Tryd.func47, Tryd.ntmps47
  go_wp2
  refine wp_loop_rounds 6 ?_; rw [rounds_succ]
  go_wp2_with fail
  refine (g0 _).mono ?_
  rintro e w' ⟨rfl, hw⟩
  subst hw
  go_wp2_with fail
  rw [rounds_succ]
  go_wp2_with fail
  refine (g1 _).mono ?_
  rintro e w' ⟨rfl, hw⟩
  subst hw
  go_wp2_with fail
  rw [rounds_succ]
  go_wp2_with fail
  refine (g2 _).mono ?_
  rintro e w' ⟨rfl, hw⟩
  subst hw
  go_wp2_with fail
  rw [rounds_succ]
  go_wp2_with fail
  refine (b _).mono ?_
  rintro e w' ⟨rfl, hw⟩
  subst hw
  go_wp2
  exact bodyPost_ret (v := .tuple #[.agg #[.int .i64 0, .int .i64 0, .int .i64 0, .int .i64 0, .int .i64 0], .int .i64 0, .int .i64 14]) (by simp [results, Tryd.results47, go_sem]) rfl ⟨rfl, (((Below.refl _ _).alloc (Nat.le_refl _) _).alloc (by simp) _)⟩

set_option maxRecDepth 100000 in
set_option maxHeartbeats 1000000 in
theorem getRange_bad4 (s : ByteArray) (q0 q1 q2 q3 q4 x0 x1 x2 x3 : Int) (w : World) (g0 : Gives s q0 x0 q1) (g1 : Gives s q1 x1 q2) (g2 : Gives s q2 x2 q3) (g3 : Gives s q3 x3 q4) (b : Fails s q4) :
    Calls Tryd.prog 47 #[.string s, .int .i64 q0] w fun e w' => e = .returned (.tuple #[.agg #[.int .i64 0, .int .i64 0, .int .i64 0, .int .i64 0, .int .i64 0], .int .i64 0, .int .i64 14]) ∧ Below w.heap.size w w' := by
  go_enter Tryd.func47, Tryd.ntmps47
  go_wp2
  refine wp_loop_rounds 6 ?_; rw [rounds_succ]
  go_wp2_with fail
  refine (g0 _).mono ?_
  rintro e w' ⟨rfl, hw⟩
  subst hw
  go_wp2_with fail
  rw [rounds_succ]
  go_wp2_with fail
  refine (g1 _).mono ?_
  rintro e w' ⟨rfl, hw⟩
  subst hw
  go_wp2_with fail
  rw [rounds_succ]
  go_wp2_with fail
  refine (g2 _).mono ?_
  rintro e w' ⟨rfl, hw⟩
  subst hw
  go_wp2_with fail
  rw [rounds_succ]
  go_wp2_with fail
  refine (g3 _).mono ?_
  rintro e w' ⟨rfl, hw⟩
  subst hw
  go_wp2_with fail
  rw [rounds_succ]
  go_wp2_with fail
  refine (b _).mono ?_
  rintro e w' ⟨rfl, hw⟩
  subst hw
  go_wp2
  exact bodyPost_ret (v := .tuple #[.agg #[.int .i64 0, .int .i64 0, .int .i64 0, .int .i64 0, .int .i64 0], .int .i64 0, .int .i64 14]) (by simp [results, Tryd.results47, go_sem]) rfl ⟨rfl, (((Below.refl _ _).alloc (Nat.le_refl _) _).alloc (by simp) _)⟩

set_option maxRecDepth 100000 in
set_option maxHeartbeats 1000000 in
theorem getRange_ok (s : ByteArray) (q0 q1 q2 q3 q4 q5 x0 x1 x2 x3 x4 : Int) (w : World) (g0 : Gives s q0 x0 q1) (g1 : Gives s q1 x1 q2) (g2 : Gives s q2 x2 q3) (g3 : Gives s q3 x3 q4) (g4 : Gives s q4 x4 q5) (h1 : 0 ≤ x1 ∧ x1 ≤ 2097151) (h2 : 0 ≤ x2 ∧ x2 ≤ 2097151) :
    Calls Tryd.prog 47 #[.string s, .int .i64 q0] w fun e w' => e = .returned (.tuple #[.agg #[.int .i64 x0, .int .i64 x1, .int .i64 (x1 + x2), .int .i64 x3, .int .i64 x4], .int .i64 q5, .int .i64 0]) ∧ Below w.heap.size w w' := by
  obtain ⟨h1, h3⟩ := h1
  obtain ⟨h2, h4⟩ := h2
  go_enter Tryd.func47, Tryd.ntmps47
  go_wp2
  refine wp_loop_rounds 6 ?_; rw [rounds_succ]
  go_wp2_with fail
  refine (g0 _).mono ?_
  rintro e w' ⟨rfl, hw⟩
  subst hw
  go_wp2_with fail
  rw [rounds_succ]
  go_wp2_with fail
  refine (g1 _).mono ?_
  rintro e w' ⟨rfl, hw⟩
  subst hw
  go_wp2_with fail
  rw [rounds_succ]
  go_wp2_with fail
  refine (g2 _).mono ?_
  rintro e w' ⟨rfl, hw⟩
  subst hw
  go_wp2_with fail
  rw [rounds_succ]
  go_wp2_with fail
  refine (g3 _).mono ?_
  rintro e w' ⟨rfl, hw⟩
  subst hw
  go_wp2_with fail
  rw [rounds_succ]
  go_wp2_with fail
  refine (g4 _).mono ?_
  rintro e w' ⟨rfl, hw⟩
  subst hw
  go_wp2_with fail
  rw [rounds_succ]
  go_wp2
  exact bodyPost_ret (v := .tuple #[.agg #[.int .i64 x0, .int .i64 x1, .int .i64 (x1 + x2), .int .i64 x3, .int .i64 x4], .int .i64 q5, .int .i64 0]) (by simp [results, Tryd.results47, go_sem]) rfl ⟨rfl, (((((Below.refl _ _).alloc (Nat.le_refl _) _).alloc (by simp) _)).alloc (by simp; omega) _)⟩

end Go.Proofs.YtoepcplbpochpabDoor

/-
  What leb.Encode answers, of every list of ranges.
-/
namespace Go.Proofs.YtoepcplbpochpabDoor
open Go.RowKit

/-- The numbers that are written of a table; its bytes as a string. -/
def flat (R : List Rg) : List Int := (R.length : Int) :: R.flatMap nums
def flatTo (R : List Rg) (k : Nat) : List Int := (R.length : Int) :: (R.take k).flatMap nums
def encAll (R : List Rg) : ByteArray := wrS (flat R)

theorem numS_wr (x : Int) : numS x = wrS [x] := by
  apply Go.WideShapes.bytes_inj
  rw [numS_data, wrS_data]; unfold bytesOf; simp
theorem flatMap_len (R : List Rg) : (R.flatMap nums).length = 5 * R.length := by
  induction R with
  | nil => rfl
  | cons r R ih => rw [List.flatMap_cons, List.length_append, ih, List.length_cons]; show 5 + _ = _; omega
theorem flatTo_len (R : List Rg) (k : Nat) : (flatTo R k).length ≤ 1 + 5 * k := by
  unfold flatTo; rw [List.length_cons, flatMap_len, List.length_take]; omega
theorem take_rg (R : List Rg) (k : Nat) (h : k < R.length) : R.take (k + 1) = R.take k ++ [rg R k] := by
  rw [List.take_succ_eq_append_getElem h]; unfold rg; rw [List.getD_eq_getElem?_getD, List.getElem?_eq_getElem h]; rfl
theorem flatTo_succ (R : List Rg) (k : Nat) (h : k < R.length) : flatTo R (k + 1) = flatTo R k ++ nums (rg R k) := by
  unfold flatTo; rw [take_rg R k h, List.flatMap_append]; simp
theorem flatTo_end (R : List Rg) : flatTo R R.length = flat R := by unfold flatTo flat; rw [List.take_length]

theorem isTab_len {R : List Rg} (h : isTab R = true) : R.length ≤ 200 := by
  unfold isTab at h; rw [Bool.and_eq_true, decide_eq_true_eq] at h; exact h.1
theorem isTab_rg {R : List Rg} (h : isTab R = true) {k : Nat} (hk : k < R.length) : isRg (rg R k) = true := by
  unfold isTab tabTo at h; rw [Bool.and_eq_true, List.all_eq_true] at h
  have := h.2 k (by rw [List.mem_range]; exact hk)
  rw [Bool.and_eq_true] at this; exact this.1

/-- What Encode answers. -/
def encV (R : List Rg) : Value := if isTab R = true then .tuple #[.string (encAll R), .int .i64 0] else .tuple #[.string ByteArray.empty, .int .i64 10]
theorem encV_yes {R : List Rg} (h : isTab R = true) : encV R = .tuple #[.string (encAll R), .int .i64 0] := by unfold encV; rw [if_pos h]
theorem encV_no {R : List Rg} (h : isTab R = false) : encV R = .tuple #[.string ByteArray.empty, .int .i64 10] := by unfold encV; rw [if_neg (by rw [h]; decide)]

theorem ret_str2 {a b : ByteArray} {z : Int} (h : a = b) : Ending.returned (.tuple #[.string a, .int .i64 z]) = .returned (.tuple #[.string b, .int .i64 z]) := by rw [h]

end Go.Proofs.YtoepcplbpochpabDoor

/-
  What Get and getRange answer at a place of a string, by what stands there; and what tables a string can hold.
-/
namespace Go.Proofs.YtoepcplbpochpabDoor
open Go.RowKit

/-- What stands in a string from a place on. -/
def D (s : ByteArray) (p : Nat) : List UInt8 := s.data.toList.drop p

theorem D_zero (s : ByteArray) : D s 0 = s.data.toList := rfl
theorem D_len (s : ByteArray) (p : Nat) : (D s p).length = s.size - p := by unfold D; rw [List.length_drop, ← Lib.size_eq]

theorem gives_or (s : ByteArray) (p : Nat) (hs : s.size ≤ maxLen) (hp : p ≤ s.size) :
    (∃ (x : Int) (q : Nat), Fine x ∧ D s p = encB x ++ D s q ∧ q ≤ s.size ∧ Gives s p x q) ∨ (getL (D s p) = none ∧ Fails s p) := by
  have hi : (p : Int) ≤ 9223372036854775807 := by unfold maxLen at hs; omega
  have G := fun w => get_any s (p : Int) w hs hi
  cases h : getL (D s p) with
  | none =>
    refine .inr ⟨rfl, fun w => ?_⟩
    have := G w
    rw [getR_none (k := p) h] at this
    exact this
  | some xj =>
    obtain ⟨x, j⟩ := xj
    obtain ⟨hf, hl, hj⟩ := getL_sound _ _ _ h
    have hq : p + j ≤ s.size := by
      have := congrArg List.length hl
      rw [List.length_append, List.length_drop, D_len, ← hj] at this
      omega
    refine .inl ⟨x, p + j, hf, ?_, hq, fun w => ?_⟩
    · rw [hl]; congr 1; unfold D; rw [List.drop_drop]
    · have := G w
      rw [getR_some (k := p) h] at this
      exact this

/-- A range as an aggregate. -/
def aggOf (r : Rg) : Value := .agg #[.int .i64 r.v, .int .i64 r.f, .int .i64 r.t, .int .i64 r.k, .int .i64 r.a]

/-- getRange at a place: a range and the place behind it; or no five numbers stand there. -/
theorem range_or (s : ByteArray) (p : Nat) (hs : s.size ≤ maxLen) (hp : p ≤ s.size) :
    (∃ (r : Rg) (q : Nat), (∀ x ∈ nums r, Fine x) ∧ D s p = bytesOf (nums r) ++ D s q ∧ q ≤ s.size ∧
      ∀ w, Calls Tryd.prog 47 #[.string s, .int .i64 p] w fun e w' => e = .returned (.tuple #[.agg #[.int .i64 r.v, .int .i64 r.f, .int .i64 r.t, .int .i64 r.k, .int .i64 r.a], .int .i64 q, .int .i64 0]) ∧ Below w.heap.size w w') ∨
    ((∀ ys t, ys.length = 5 → (∀ y ∈ ys, Fine y) → D s p ≠ bytesOf ys ++ t) ∧
      ∀ w, Calls Tryd.prog 47 #[.string s, .int .i64 p] w fun e w' => e = .returned (.tuple #[.agg #[.int .i64 0, .int .i64 0, .int .i64 0, .int .i64 0, .int .i64 0], .int .i64 0, .int .i64 14]) ∧ Below w.heap.size w w') := by
  rcases gives_or s p hs hp with ⟨x0, q1, f0, e0, l1, g0⟩ | ⟨n, b⟩
  case inr => exact .inr ⟨fun ys t hl hy h => none_short (xs := []) (by simp) hy (by simp; omega) h n, fun w => getRange_bad0 s _ w b⟩
  rcases gives_or s q1 hs l1 with ⟨x1, q2, f1, e1, l2, g1⟩ | ⟨n, b⟩
  case inr => exact .inr ⟨fun ys t hl hy h => none_short (xs := [x0]) (r := D s q1) (by simpa using f0) hy (by simp; omega) (by rw [← h, e0]; simp [bytesOf_cons, bytesOf_nil]) n, fun w => getRange_bad1 s _ _ _ w g0 b⟩
  rcases gives_or s q2 hs l2 with ⟨x2, q3, f2, e2, l3, g2⟩ | ⟨n, b⟩
  case inr => exact .inr ⟨fun ys t hl hy h => none_short (xs := [x0, x1]) (r := D s q2) (by simpa using ⟨f0, f1⟩) hy (by simp; omega) (by rw [← h, e0, e1]; simp [bytesOf_cons, bytesOf_nil]) n, fun w => getRange_bad2 s _ _ _ _ _ w g0 g1 b⟩
  rcases gives_or s q3 hs l3 with ⟨x3, q4, f3, e3, l4, g3⟩ | ⟨n, b⟩
  case inr => exact .inr ⟨fun ys t hl hy h => none_short (xs := [x0, x1, x2]) (r := D s q3) (by simpa using ⟨f0, f1, f2⟩) hy (by simp; omega) (by rw [← h, e0, e1, e2]; simp [bytesOf_cons, bytesOf_nil]) n, fun w => getRange_bad3 s _ _ _ _ _ _ _ w g0 g1 g2 b⟩
  rcases gives_or s q4 hs l4 with ⟨x4, q5, f4, e4, l5, g4⟩ | ⟨n, b⟩
  case inr => exact .inr ⟨fun ys t hl hy h => none_short (xs := [x0, x1, x2, x3]) (r := D s q4) (by simpa using ⟨f0, f1, f2, f3⟩) hy (by simp; omega) (by rw [← h, e0, e1, e2, e3]; simp [bytesOf_cons, bytesOf_nil]) n, fun w => getRange_bad4 s _ _ _ _ _ _ _ _ _ w g0 g1 g2 g3 b⟩
  have en : nums ⟨x0, x1, x1 + x2, x3, x4⟩ = [x0, x1, x2, x3, x4] := by unfold nums; simp; omega
  refine .inl ⟨⟨x0, x1, x1 + x2, x3, x4⟩, q5, ?_, ?_, l5, fun w => getRange_ok s _ _ _ _ _ _ _ _ _ _ _ w g0 g1 g2 g3 g4 f1 f2⟩
  · rw [en]; simpa using ⟨f0, f1, f2, f3, f4⟩
  · rw [en, e0, e1, e2, e3, e4]; simp [bytesOf_cons, bytesOf_nil]

/-! ### Which table a string holds -/
def TabS (s : ByteArray) (R : List Rg) : Prop := isTab R = true ∧ bytesOf (flat R) = s.data.toList

theorem flat_fine {R : List Rg} (h : isTab R = true) : ∀ x ∈ flat R, Fine x := by
  intro x hx
  unfold flat at hx
  rw [List.mem_cons, List.mem_flatMap] at hx
  rcases hx with rfl | ⟨r, hr, hx⟩
  · have := isTab_len h; exact ⟨by omega, by omega⟩
  · obtain ⟨k, hk, rfl⟩ := List.mem_iff_getElem.1 hr
    have e : R[k] = rg R k := by unfold rg; rw [List.getD_eq_getElem?_getD, List.getElem?_eq_getElem hk]; rfl
    rw [e] at hx
    have ok := nums_ok (isTab_rg h hk)
    obtain ⟨i, hi, rfl⟩ := List.mem_iff_getElem.1 hx
    have := ok i hi
    unfold nth at this
    rw [List.getD_eq_getElem?_getD, List.getElem?_eq_getElem hi] at this
    have h2 : 0 ≤ (nums (rg R k))[i] ∧ (nums (rg R k))[i] ≤ 65535 := this
    exact ⟨h2.1, by omega⟩

theorem nums_inj {r q : Rg} (h : nums r = nums q) : r = q := by
  unfold nums at h
  simp only [List.cons.injEq, and_true] at h
  obtain ⟨a, b, c, d, e⟩ := h
  obtain ⟨v, f, t, k, x⟩ := r
  obtain ⟨v2, f2, t2, k2, x2⟩ := q
  simp only [Rg.mk.injEq] at *
  omega

theorem flatMap_inj : ∀ {P Q : List Rg}, P.flatMap nums = Q.flatMap nums → P = Q
  | [], [], _ => rfl
  | [], q :: Q, h => by have := congrArg List.length h; rw [flatMap_len, flatMap_len] at this; simp at this
  | p :: P, [], h => by have := congrArg List.length h; rw [flatMap_len, flatMap_len] at this; simp at this
  | p :: P, q :: Q, h => by
    rw [List.flatMap_cons, List.flatMap_cons] at h
    obtain ⟨h1, h2⟩ := List.append_inj h rfl
    rw [nums_inj h1, flatMap_inj h2]

theorem tab_uniq {s : ByteArray} {P Q : List Rg} (hp : TabS s P) (hq : TabS s Q) : P = Q := by
  have := bytesOf_inj (flat_fine hp.1) (flat_fine hq.1) (hp.2.trans hq.2.symm)
  unfold flat at this
  exact flatMap_inj (List.cons.inj this).2

/-- A table begins with its length. -/
theorem tab_head {s : ByteArray} {R : List Rg} (h : TabS s R) : getL s.data.toList = some ((R.length : Int), (encB (R.length : Int)).length) := by
  rw [← h.2]; unfold flat; rw [bytesOf_cons]
  exact getL_enc (flat_fine h.1 _ (by simp [flat])) _

/-- So far as it is read: count, then the ranges Q, then what is left from p on. -/
def ReadTo (s : ByteArray) (count : Int) (Q : List Rg) (p : Nat) : Prop :=
  s.data.toList = encB count ++ (bytesOf (Q.flatMap nums) ++ D s p) ∧ (∀ r ∈ Q, ∀ x ∈ nums r, Fine x) ∧ Fine count

theorem read_fine {s : ByteArray} {count : Int} {Q : List Rg} {p : Nat} (h : ReadTo s count Q p) : ∀ x ∈ count :: Q.flatMap nums, Fine x := by
  intro x hx
  rw [List.mem_cons, List.mem_flatMap] at hx
  rcases hx with rfl | ⟨r, hr, hx⟩
  · exact h.2.2
  · exact h.2.1 r hr x hx

theorem tab_rest {s : ByteArray} {count : Int} {Q R : List Rg} {p : Nat} (h : ReadTo s count Q p) (ht : TabS s R) (hl : (Q.length : Int) ≤ count) :
    (R.length : Int) = count ∧ ∃ zs, R.flatMap nums = Q.flatMap nums ++ zs ∧ D s p = bytesOf zs ∧ ∀ x ∈ zs, Fine x := by
  have e1 := tab_head ht
  rw [h.1, getL_enc h.2.2] at e1
  have ec : count = (R.length : Int) := (Prod.mk.inj (Option.some.inj e1)).1
  have e2 : bytesOf (count :: Q.flatMap nums) ++ D s p = bytesOf (flat R) ++ [] := by
    rw [List.append_nil, ht.2, h.1, bytesOf_cons, List.append_assoc]
  obtain ⟨zs, e3, e4⟩ := uniq _ _ _ _ (read_fine h) (flat_fine ht.1) (by
    unfold flat; rw [List.length_cons, List.length_cons, flatMap_len, flatMap_len]; omega) e2
  refine ⟨ec.symm, zs, ?_, by simpa using e4, fun x hx => flat_fine ht.1 x (by rw [e3]; simp [hx])⟩
  unfold flat at e3
  exact (List.cons.inj e3).2

theorem read_bad {s : ByteArray} {count : Int} {Q : List Rg} {p : Nat} (h : ReadTo s count Q p) (hl : (Q.length : Int) < count)
    (hb : ∀ ys t, ys.length = 5 → (∀ y ∈ ys, Fine y) → D s p ≠ bytesOf ys ++ t) : ∀ R, ¬ TabS s R := by
  intro R ht
  obtain ⟨ec, zs, e1, e2, hf⟩ := tab_rest h ht (by omega)
  have hz : 5 ≤ zs.length := by
    have := congrArg List.length e1
    rw [List.length_append, flatMap_len, flatMap_len] at this; omega
  refine hb (zs.take 5) (bytesOf (zs.drop 5)) (by rw [List.length_take]; omega) (fun y hy => hf y (List.mem_of_mem_take hy)) ?_
  rw [e2, ← bytesOf_app, List.take_append_drop]

theorem read_end {s : ByteArray} {count : Int} {Q R : List Rg} {p : Nat} (h : ReadTo s count Q p) (hl : (Q.length : Int) = count) (ht : TabS s R) : R = Q ∧ D s p = [] := by
  obtain ⟨ec, zs, e1, e2, hf⟩ := tab_rest h ht (by omega)
  have hz : zs = [] := by
    have := congrArg List.length e1
    rw [List.length_append, flatMap_len, flatMap_len] at this
    exact List.length_eq_zero_iff.1 (by omega)
  subst hz
  rw [List.append_nil] at e1
  exact ⟨flatMap_inj e1, by rw [e2]; rfl⟩

theorem read_next {s : ByteArray} {count : Int} {Q : List Rg} {p q : Nat} {r : Rg} (h : ReadTo s count Q p) (hr : ∀ x ∈ nums r, Fine x) (e : D s p = bytesOf (nums r) ++ D s q) : ReadTo s count (Q ++ [r]) q := by
  refine ⟨?_, ?_, h.2.2⟩
  · rw [h.1, e, List.flatMap_append, bytesOf_app, List.append_assoc]; simp
  · intro x hx
    rw [List.mem_append, List.mem_singleton] at hx
    rcases hx with hx | rfl
    · exact h.2.1 x hx
    · exact hr

theorem read_tab {s : ByteArray} {count : Int} {Q : List Rg} {p : Nat} (h : ReadTo s count Q p) (hl : (Q.length : Int) = count) (hp : D s p = []) (ht : isTab Q = true) : TabS s Q := by
  refine ⟨ht, ?_⟩
  rw [h.1, hp, List.append_nil, ← hl]
  rfl

end Go.Proofs.YtoepcplbpochpabDoor

/-
  What lodgeref.IsTable answers, of every list of ranges: just what leb.isTable answers, though it looks at every pair.
-/
namespace Go.Proofs.YtoepcplbpochpabDoor
open Go.RowKit

/-! ### The plain mathematics: neighbours decide of all pairs -/
def before (x y : Rg) : Prop := x.v < y.v ∨ x.v = y.v ∧ x.t ≤ y.f

theorem before_of_follows {x y : Rg} (h : follows x y = true) : before x y := by
  unfold follows at h; unfold before
  by_cases a : x.v = y.v
  · by_cases b : x.t = y.f
    · omega
    · simp [a, b] at h; omega
  · simp [a] at h; omega
theorem before_trans {x y z : Rg} (h : before x y) (h' : before y z) (hy : y.f < y.t) : before x z := by
  unfold before at *; omega
theorem behind_true (x y : Rg) : behind x y true = follows x y := by
  unfold behind follows
  by_cases a : x.v = y.v
  · by_cases b : x.t = y.f
    · simp [a, b]
    · by_cases c : y.f < x.t
      · simp [a, b, c]; omega
      · have : x.t < y.f := by omega
        simp [a, b, c, this]
  · simp [a]
theorem behind_false {x y : Rg} (h : before x y) : behind x y false = true := by
  unfold behind; unfold before at h
  by_cases a : x.v = y.v
  · simp [a]; omega
  · simp [a]; omega

theorem isRg_lt {r : Rg} (h : isRg r = true) : r.f < r.t := by unfold isRg at h; rw [decide_eq_true_eq] at h; omega

theorem tab_at {R : List Rg} {n k : Nat} (h : tabTo R n = true) (hk : k < n) : isRg (rg R k) = true ∧ (k = 0 ∨ follows (rg R (k - 1)) (rg R k) = true) := by
  unfold tabTo at h; rw [List.all_eq_true] at h
  have := h k (by rw [List.mem_range]; exact hk)
  simpa using this

theorem tab_before {R : List Rg} {n : Nat} (h : tabTo R n = true) : ∀ k, k < n → ∀ j, j < k → before (rg R j) (rg R k) := by
  intro k
  induction k with
  | zero => intro _ j hj; omega
  | succ k ih =>
    intro hk j hj
    have f := before_of_follows ((tab_at h hk).2.resolve_left (by omega))
    rw [Nat.add_sub_cancel] at f
    by_cases e : j = k
    · subst e; exact f
    · exact before_trans (ih (by omega) j (by omega)) f (isRg_lt (tab_at h (by omega : k < n)).1)

/-- What a true table says of each pair. -/
theorem tab_behind {R : List Rg} {n k j : Nat} (h : tabTo R n = true) (hk : k < n) (hj : j < k) : behind (rg R j) (rg R k) (decide ((j : Int) = (k : Int) - 1)) = true := by
  by_cases e : (j : Int) = (k : Int) - 1
  · rw [decide_eq_true e, behind_true]
    have := (tab_at h hk).2.resolve_left (by omega)
    rw [show k - 1 = j by omega] at this; exact this
  · rw [decide_eq_false e]; exact behind_false (tab_before h k hk j hj)

/-- Pairs behind one another. -/
def pairsTo (R : List Rg) (k j : Nat) : Prop := ∀ i, i < j → behind (rg R i) (rg R k) (decide ((i : Int) = (k : Int) - 1)) = true

theorem tab_next {R : List Rg} {k : Nat} (h : tabTo R k = true) (hr : isRg (rg R k) = true) (hp : pairsTo R k k) : tabTo R (k + 1) = true := by
  rw [tabTo_succ, h, hr]
  by_cases h0 : k = 0
  · simp [h0]
  · have := hp (k - 1) (by omega)
    rw [decide_eq_true (by omega), behind_true] at this
    simp [this]

end Go.Proofs.YtoepcplbpochpabDoor

/-
  What lodgeref.Encode answers, of every list of ranges: just what leb.Encode answers.
-/
namespace Go.Proofs.YtoepcplbpochpabDoor
open Go.RowKit

theorem Tryd.intInfo : (Tryd.prog.info? 3).map (fun i => (i.zero, i.size, i.bytes)) = some (some (.int .i64 0), 1, 8) := by kernel_rfl

/-- A slice that was just laid out is owned. -/
theorem own_new (w : World) (base : Nat) (e : TypeId) (xs : List Value) (hb : base ≤ w.heap.size) (hl : xs.length ≤ maxLen) :
    (w.alloc (.cells xs.toArray e)).ownsRow base e 1 (.slice (some ⟨w.heap.size, 0, none⟩) xs.length xs.length) xs.length xs := by
  refine ⟨by simp, .inr ⟨w.heap.size, xs.length, xs.toArray, rfl, hb, ?_, Nat.le_refl _, hl, by simp, by simp⟩⟩
  exact heap_alloc_new _ _

theorem cells_new (w : World) (n : Nat) (hn : n = w.heap.size) (e : TypeId) (xs : List Value) :
    ∀ j u, xs[j]? = some u → (w.alloc (.cells xs.toArray e)).cell? ((⟨n, 0, none⟩ : Addr).add j) = some u := by
  intro j u hj
  have : (⟨n, 0, none⟩ : Addr).add j = ⟨n, j, none⟩ := by unfold Addr.add; split <;> simp_all
  rw [this, World.cell?_alloc_at (hn := hn)]
  simpa using hj

theorem own_lt {w : World} {base n cap g : Nat} {e : TypeId} {xs : List Value} (h : w.ownsRow base e 1 (.slice (some ⟨g, 0, none⟩) n cap) n xs) : g < w.heap.size := by
  rcases h.2 with ⟨h, _⟩ | ⟨g', cap', cur, h, _, hh, _⟩
  · simp at h
  · simp only [Value.slice.injEq, Option.some.injEq, Addr.mk.injEq, and_true, true_and] at h
    obtain ⟨rfl, rfl⟩ := h
    exact (Array.getElem?_eq_some_iff.1 hh).1

theorem flat_ok {R : List Rg} (h : isTab R = true) : ∀ x ∈ flat R, 0 ≤ x ∧ x ≤ 65535 := by
  intro x hx
  unfold flat at hx
  rw [List.mem_cons, List.mem_flatMap] at hx
  rcases hx with rfl | ⟨r, hr, hx⟩
  · have := isTab_len h; omega
  · obtain ⟨k, hk, rfl⟩ := List.mem_iff_getElem.1 hr
    have e : R[k] = rg R k := by unfold rg; rw [List.getD_eq_getElem?_getD, List.getElem?_eq_getElem hk]; rfl
    rw [e] at hx
    have ok := nums_ok (isTab_rg h hk)
    obtain ⟨i, hi, rfl⟩ := List.mem_iff_getElem.1 hx
    have := ok i hi
    unfold nth at this
    rw [List.getD_eq_getElem?_getD, List.getElem?_eq_getElem hi] at this
    exact this

end Go.Proofs.YtoepcplbpochpabDoor

/-
  What leb.Decode answers, of every string: the table that it holds, fresh; or that it holds none.
-/
namespace Go.Proofs.YtoepcplbpochpabDoor
open Go.RowKit

theorem Tryd.info109 : (Tryd.prog.info? 109).map (fun i => (i.zero, i.size, i.bytes)) = some (some (.agg #[.int .i64 0, .int .i64 0, .int .i64 0, .int .i64 0, .int .i64 0]), 5, 40) := by kernel_rfl

/-- The cells of a list of ranges. -/
def cellsOf (R : List Rg) : List Value := R.flatMap Rg.cells
theorem cellsOf_len (R : List Rg) : (cellsOf R).length = R.length * 5 := by
  unfold cellsOf
  induction R with
  | nil => rfl
  | cons r R ih => rw [List.flatMap_cons, List.length_append, ih, List.length_cons]; show 5 + _ = _; omega
theorem cellsOf_snoc (R : List Rg) (r : Rg) : cellsOf (R ++ [r]) = cellsOf R ++ r.cells := by unfold cellsOf; rw [List.flatMap_append]; simp

theorem cellsOf_at : ∀ (R : List Rg) (i : Nat), i < R.length → ∀ j, j < 5 → (cellsOf R)[i * 5 + j]? = (rg R i).cells[j]?
  | [], i, h, _, _ => absurd h (by simp)
  | r :: R, 0, _, j, hj => by
    unfold cellsOf; rw [List.flatMap_cons, Nat.zero_mul, Nat.zero_add, List.getElem?_append_left (by exact hj)]; rfl
  | r :: R, i + 1, h, j, hj => by
    have ih := cellsOf_at R i (by simpa using h) j hj
    unfold cellsOf at *
    rw [List.flatMap_cons, List.getElem?_append_right (by show 5 ≤ _; omega), show (i + 1) * 5 + j - r.cells.length = i * 5 + j by show _ - 5 = _; omega, ih]
    rfl

/-- What is owned stays owned behind a call that leaves old blocks alone. -/
theorem own_below {w w' : World} {base : Nat} {e : TypeId} {size n : Nat} {v : Value} {xs : List Value} (h : w.ownsRow base e size v n xs) (hb : Below w.heap.size w w') : w'.ownsRow base e size v n xs := by
  refine ⟨h.1, ?_⟩
  rcases h.2 with h2 | ⟨g, cap, cur, h1, h2, h3, h4⟩
  · exact .inl h2
  · exact .inr ⟨g, cap, cur, h1, h2, by rw [hb.block g (Array.getElem?_eq_some_iff.1 h3).1]; exact h3, h4⟩

/-- What is owned from a higher block on is owned from a lower one on. -/
theorem own_weakR {w : World} {base base' : Nat} {e : TypeId} {size n : Nat} {v : Value} {xs : List Value} (h : w.ownsRow base' e size v n xs) (hb : base ≤ base') : w.ownsRow base e size v n xs := by
  refine ⟨h.1, ?_⟩
  rcases h.2 with h2 | ⟨g, cap, cur, h1, h2, h3⟩
  · exact .inl h2
  · exact .inr ⟨g, cap, cur, h1, Nat.le_trans hb h2, h3⟩

/-- What is owned is held: the slice's own address, as the walks ask it. -/
theorem own_held {w : World} {base : Nat} {v : Value} {R : List Rg} (h : w.ownsRow base 109 5 v R.length (cellsOf R)) :
    ∃ ao cap, v = .slice ao R.length cap ∧ Held w ao R ∧ R.length ≤ maxLen ∧ (ao = none → cap = 0) ∧ (∀ g o sp, ao = some ⟨g, o, sp⟩ → base ≤ g ∧ g < w.heap.size) := by
  rcases h.2 with ⟨rfl, h0⟩ | ⟨g, cap, cur, rfl, h2, h3, h4, h5, h6, h7⟩
  · have : R = [] := List.length_eq_zero_iff.1 h0
    subst this
    exact ⟨none, 0, rfl, .inl rfl, by decide, fun _ => rfl, fun g o sp h => by cases h⟩
  · refine ⟨some ⟨g, 0, none⟩, cap, rfl, .inr ⟨g, 0, rfl, (Array.getElem?_eq_some_iff.1 h3).1, ?_⟩, by omega, fun h => (by cases h), fun g' o sp h => (by cases h; exact ⟨h2, (Array.getElem?_eq_some_iff.1 h3).1⟩)⟩
    intro i hi
    have key : ∀ j, j < 5 → w.cell? ⟨g, i * 5 + j, none⟩ = (rg R i).cells[j]? := fun j hj => by
      rw [h.cellAt (i * 5 + j) (by omega), cellsOf_at R i hi j hj]
    rw [Nat.zero_add]
    exact ⟨key 0 (by decide), key 1 (by decide), key 2 (by decide), key 3 (by decide), key 4 (by decide)⟩

/-- What Decode answers. -/
def DecPost (s : ByteArray) (w : World) (e : Ending) (w' : World) : Prop :=
  Below w.heap.size w w' ∧ ((∃ R v, TabS s R ∧ e = .returned (.tuple #[v, .int .i64 0]) ∧ w'.ownsRow w.heap.size 109 5 v R.length (cellsOf R)) ∨
    ((∀ R, ¬ TabS s R) ∧ e = .returned (.tuple #[.slice none 0 0, .int .i64 14])))

set_option maxRecDepth 100000 in
set_option maxHeartbeats 1000000 in
theorem decode_loop (s : ByteArray) (w : World) (hs : s.size ≤ maxLen) (count : Nat) (p0 : Nat) (hc : count ≤ 200) (hp0 : p0 ≤ s.size) (h0 : ReadTo s count [] p0) (G : Gives s 0 count p0) :
    Calls Tryd.prog 27 #[.string s] w fun e w' => DecPost s w e w' := by
  obtain ⟨i0, hi, hz0, hz1, hz2⟩ := info_parts Tryd.info109
  unfold maxLen at hs
  go_enter Tryd.func27, Tryd.ntmps27
  go_wp2_with fail
  refine (G _).mono ?_
  rintro e w' ⟨rfl, hw⟩
  subst hw
  go_wp2_with fail
  go_loopw [5, 7, 8] (fun a v i wr => ∃ (k p : Nat) (Q : List Rg), k ≤ count ∧ i = .int .i64 k ∧ a = .int .i64 p ∧ p ≤ s.size ∧ Q.length = k ∧ ReadTo s count Q p ∧ wr.ownsRow w'.heap.size 109 5 v k (cellsOf Q) ∧ Below w'.heap.size w' wr) (fun _ _ i _ => count - (intOf i).toNat)
  case atStart => exact ⟨0, p0, [], Nat.zero_le _, rfl, rfl, hp0, rfl, h0, World.ownsRow_nil _ _ _ _, Below.refl _ _⟩
  case round =>
    obtain ⟨k, p, Q, hk, rfl, rfl, hp, hQ, hread, hown, hbel⟩ := hrel
    have HQ := hide hQ
    have HR := hide hread
    have hB := hbel.size
    clear hQ hread
    by_cases hlt : k < count
    · rcases range_or s p hs hp with ⟨r, q, hr, he, hq, C⟩ | ⟨hno, C⟩
      · have hn := hide (read_next (unhide HR) hr he)
        have CC := hide C
        clear C hr he
        go_wp2_with fail
        refine (unhide CC _).mono ?_
        rintro e w1 ⟨rfl, hb1⟩
        have hB1 := hb1.size
        have hown1 := own_below hown hb1
        clear hown
        go_wp2_with (at_builtin; refine wpList_append_own _ rfl _ _ 70 rfl w'.heap.size 109 i0 (.agg #[.int .i64 0, .int .i64 0, .int .i64 0, .int .i64 0, .int .i64 0]) 5 40 Tryd.underlying70 hi hz0 hz1 hz2 rfl (by decide) _ _ _ rfl ((hown1.alloc _).alloc _) ⟨w1.heap.size + 1, 0, none⟩ 1 1 [.int .i64 r.v, .int .i64 r.f, .int .i64 r.t, .int .i64 r.k, .int .i64 r.a] rfl rfl ?c1 ?c2 ?c3 ?c4 ?c5 ?_)
        case c1 => exact cells_new _ _ (by simp) 109 _
        case c2 => intro u hu; simp only [List.mem_cons, List.not_mem_nil, or_false] at hu; rcases hu with rfl | rfl | rfl | rfl | rfl <;> rfl
        case c3 => unfold maxLen; omega
        case c4 => omega
        case c5 => simp; omega
        intro v' w2 hown' hgrow _
        have hb2 : Below w'.heap.size w' w2 := (((hbel.trans (hb1.mono hbel.size)).alloc (by omega) _).alloc (by simp; omega) _).grown hgrow (by simp; omega) (own_ge hown1)
        have hO : w2.ownsRow w'.heap.size 109 5 v' (k + 1) (cellsOf (Q ++ [r])) := by rw [cellsOf_snoc]; exact hown'
        clear hgrow hown' hown1
        go_wp2
        go_roundw
        case rel => exact ⟨k + 1, q, Q ++ [r], by omega, by go_num, rfl, hq, by rw [List.length_append, unhide HQ]; rfl, unhide hn, hO, hb2⟩
        case measure => simp [intOf]; omega
      · have hn := hide (read_bad (unhide HR) (by rw [unhide HQ]; omega) hno)
        have CC := hide C
        clear C hno
        go_wp2_with fail
        refine (unhide CC _).mono ?_
        rintro e w1 ⟨rfl, hb1⟩
        go_wp2
        go_ret2
        exact ⟨(hbel.trans (hb1.mono hbel.size)).alloc (by have := hb1.size; omega) _, .inr ⟨unhide hn, rfl⟩⟩
    · have hkc : k = count := by omega
      have hl : (Q.length : Int) = (count : Int) := by rw [unhide HQ, hkc]
      rw [← unhide HQ] at hown
      obtain ⟨ao, cap, hv, hheld, hlen, _, _⟩ := own_held hown
      subst hv
      have T := hide (fun w (h : Held w ao Q) => isTable_any Q ao cap w h (by unfold maxLen at hlen; omega))
      have HO := hide hown
      have HL := hide hl
      have HH := hide hheld
      clear hkc hl hown hheld
      by_cases hps : p = s.size
      · have hD : D s p = [] := List.length_eq_zero_iff.1 (by rw [D_len]; omega)
        have HD := hide hD
        subst hps
        clear hD
        cases ht : isTab Q
        · have hno : Hid (∀ R, ¬ TabS s R) := (fun R (h : TabS s R) => absurd ((read_end (unhide HR) (unhide HL) h).1 ▸ h.1 : isTab Q = true) (by rw [ht]; decide))
          rw [ht] at T
          clear ht
          go_wp2_with fail
          refine (unhide T _ (unhide HH)).mono ?_
          rintro e w1 ⟨rfl, hb1⟩
          go_wp2
          go_ret2
          exact ⟨hbel.trans (hb1.mono hbel.size), .inr ⟨unhide hno, rfl⟩⟩
        · have hyes := hide (read_tab (unhide HR) (unhide HL) (unhide HD) ht)
          rw [ht] at T
          clear ht
          go_wp2_with fail
          refine (unhide T _ (unhide HH)).mono ?_
          rintro e w1 ⟨rfl, hb1⟩
          go_wp2
          go_ret2
          exact ⟨hbel.trans (hb1.mono hbel.size), .inl ⟨Q, _, unhide hyes, rfl, own_below (unhide HO) hb1⟩⟩
      · have hne : ((p : Int) != (s.size : Int)) = true := by rw [bne_iff_ne]; omega
        have hno : Hid (∀ R, ¬ TabS s R) := (fun R (h : TabS s R) => hps (by
          have := congrArg List.length (read_end (unhide HR) (unhide HL) h).2
          rw [D_len] at this; simp at this; omega))
        clear hps
        go_wp2
        go_ret2
        exact ⟨hbel, .inr ⟨unhide hno, rfl⟩⟩

theorem decode_any (s : ByteArray) (w : World) (hs : s.size ≤ maxLen) : Calls Tryd.prog 27 #[.string s] w fun e w' => DecPost s w e w' := by
  rcases gives_or s 0 hs (Nat.zero_le _) with ⟨x, q, hf, he, hq, G⟩ | ⟨hn, F⟩
  · by_cases h200 : x ≤ 200
    · obtain ⟨c, rfl⟩ := Int.eq_ofNat_of_zero_le hf.1
      refine decode_loop s w hs c q (by omega) hq ⟨?_, by simp, hf⟩ G
      rw [← D_zero s, he]; rfl
    · have hno : Hid (∀ R, ¬ TabS s R) := (fun R (h : TabS s R) => h200 (by
        have e1 := tab_head h
        rw [← D_zero s, he, getL_enc hf] at e1
        have := (Prod.mk.inj (Option.some.inj e1)).1
        have := isTab_len h.1
        omega))
      clear he
      go_enter Tryd.func27, Tryd.ntmps27
      go_wp2_with fail
      refine (G _).mono ?_
      rintro e w' ⟨rfl, hw⟩
      subst hw
      go_wp2
      go_ret2
      exact ⟨Below.refl _ _, .inr ⟨unhide hno, rfl⟩⟩
  · have hno : Hid (∀ R, ¬ TabS s R) := (fun R (h : TabS s R) => by
      have e1 := tab_head h
      rw [← D_zero s, hn] at e1
      cases e1)
    clear hn
    go_enter Tryd.func27, Tryd.ntmps27
    go_wp2_with fail
    refine (F _).mono ?_
    rintro e w' ⟨rfl, hw⟩
    subst hw
    go_wp2
    go_ret2
    exact ⟨Below.refl _ _, .inr ⟨unhide hno, rfl⟩⟩
end Go.Proofs.YtoepcplbpochpabDoor
