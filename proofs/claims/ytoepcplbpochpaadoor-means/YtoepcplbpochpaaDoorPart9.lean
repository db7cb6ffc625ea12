/-
  Plain mathematics: a number's bytes are read as that number, whatever stands behind them; cut short, or drawn out by a byte of nought, they are none. No Go here.
-/
import Derived.Test.YtoepcplbpochpaaDoorPart8

namespace Go.Proofs.YtoepcplbpochpaaDoor

/-- A number's bytes. -/
def encB (n : Int) : List UInt8 := (encI n).map fun m => UInt8.ofNat m.toNat

theorem numS_data (n : Int) : (numS n).data.toList = encB n := rfl
theorem numS_size (n : Int) : (numS n).size = (encI n).length := strOfNums_size _

theorem toNat_of {x : Int} (h0 : 0 ≤ x) (h1 : x < 256) : ((UInt8.ofNat x.toNat).toNat : Int) = x := by
  rw [UInt8.toNat_ofNat', Nat.mod_eq_of_lt (by omega)]; omega

theorem encB_one {n : Int} (h : n < 128) : encB n = [UInt8.ofNat n.toNat] := by unfold encB; rw [enc_one h]; rfl
theorem encB_two {n : Int} (h : ¬ n < 128) (h' : n < 16384) : encB n = [UInt8.ofNat (n % 128 + 128).toNat, UInt8.ofNat (n / 128).toNat] := by unfold encB; rw [enc_two h h']; rfl
theorem encB_three {n : Int} (h' : ¬ n < 16384) : encB n = [UInt8.ofNat (n % 128 + 128).toNat, UInt8.ofNat (n / 128 % 128 + 128).toNat, UInt8.ofNat (n / 16384).toNat] := by unfold encB; rw [enc_three h']; rfl

theorem get_enc {n : Int} (h0 : 0 ≤ n) (h1 : n ≤ 2097151) (r : List UInt8) : getL (encB n ++ r) = some (n, (encI n).length) := by
  by_cases a : n < 128
  · rw [encB_one a, enc_one a]
    have e := toNat_of h0 (by omega : n < 256)
    rw [List.cons_append, getL_a _ (by omega), e]; rfl
  by_cases b : n < 16384
  · rw [encB_two a b, enc_two a b]
    have e1 := toNat_of (x := n % 128 + 128) (by omega) (by omega)
    have e2 := toNat_of (x := n / 128) (by omega) (by omega)
    rw [List.cons_append, List.cons_append, getL_b _ (by omega) (by omega) (by omega), e1, e2]
    simp only [List.length_cons, List.length_nil, Option.some.injEq, Prod.mk.injEq, and_true]
    omega
  · rw [encB_three b, enc_three b]
    have e1 := toNat_of (x := n % 128 + 128) (by omega) (by omega)
    have e2 := toNat_of (x := n / 128 % 128 + 128) (by omega) (by omega)
    have e3 := toNat_of (x := n / 16384) (by omega) (by omega)
    rw [List.cons_append, List.cons_append, List.cons_append, getL_c _ (by omega) (by omega) (by omega) (by omega), e1, e2, e3]
    simp only [List.length_cons, List.length_nil, Option.some.injEq, Prod.mk.injEq, and_true]
    omega

theorem enc_len (n : Int) : (encI n).length = if n < 128 then 1 else if n < 16384 then 2 else 3 := by
  unfold encI; split
  · rfl
  · split <;> rfl

/-- Bytes that all bear the mark 'more follows' are no number. -/
theorem get_open : ∀ l : List UInt8, (∀ a ∈ l, ¬ (a.toNat : Int) < 128) → getL l = none
  | [], _ => rfl
  | [a], h => getL_a_end (h a (by simp))
  | [a, b], h => getL_b_end (h a (by simp)) (h b (by simp))
  | a :: b :: c :: r, h => getL_c_no r (h a (by simp)) (h b (by simp)) (h c (by simp))

/-- The bytes that lead a nought must bear the mark: then it is no number. -/
theorem get_drawn : ∀ l : List UInt8, l ≠ [] → (∀ a ∈ l, ¬ (a.toNat : Int) < 128) → getL (l ++ [0]) = none
  | [], h, _ => absurd rfl h
  | [a], _, h => getL_b_zero [] (h a (by simp)) rfl
  | [a, b], _, h => getL_c_zero [] (h a (by simp)) (h b (by simp)) rfl
  | a :: b :: c :: r, _, h => getL_c_no (r ++ [0]) (h a (by simp)) (h b (by simp)) (h c (by simp))

/-- All bytes but the last. -/
theorem enc_front (n : Int) : ∀ a ∈ (encB n).dropLast, ¬ (a.toNat : Int) < 128 := by
  by_cases a : n < 128
  · rw [encB_one a]; simp
  by_cases b : n < 16384
  · rw [encB_two a b]
    have e1 := toNat_of (x := n % 128 + 128) (by omega) (by omega)
    intro x hx; simp only [List.dropLast_cons_cons, List.dropLast_singleton, List.mem_singleton] at hx; subst hx; omega
  · rw [encB_three b]
    have e1 := toNat_of (x := n % 128 + 128) (by omega) (by omega)
    have e2 := toNat_of (x := n / 128 % 128 + 128) (by omega) (by omega)
    intro x hx; simp only [List.dropLast_cons_cons, List.dropLast_singleton, List.mem_cons, List.not_mem_nil, or_false] at hx
    rcases hx with rfl | rfl <;> omega

/-- The last byte. -/
theorem enc_last {n : Int} (h0 : 0 ≤ n) (h1 : n ≤ 2097151) : ∃ x : UInt8, (encB n).dropLast ++ [x] = encB n ∧ (x.toNat : Int) < 128 := by
  by_cases a : n < 128
  · rw [encB_one a]; exact ⟨_, rfl, by rw [toNat_of (by omega) (by omega)]; omega⟩
  by_cases b : n < 16384
  · rw [encB_two a b]; exact ⟨_, rfl, by rw [toNat_of (by omega) (by omega)]; omega⟩
  · rw [encB_three b]; exact ⟨_, rfl, by rw [toNat_of (by omega) (by omega)]; omega⟩

end Go.Proofs.YtoepcplbpochpaaDoor

/-
  Plain mathematics: what is read is what was written, and in one way alone. No Go here.
-/
namespace Go.Proofs.YtoepcplbpochpaaDoor

/-- Numbers that can be written. -/
def Fine (x : Int) : Prop := 0 ≤ x ∧ x ≤ 2097151

theorem getL_sound : ∀ (l : List UInt8) (x : Int) (j : Nat), getL l = some (x, j) → Fine x ∧ l = encB x ++ l.drop j ∧ j = (encB x).length := by
  intro l x j h
  cases l with
  | nil => rw [getL_nil] at h; cases h
  | cons a r =>
    have ba := byte_lt a
    rw [getL_cons] at h
    by_cases ha : (a.toNat : Int) < 128
    · rw [if_pos ha] at h
      obtain ⟨rfl, rfl⟩ := Prod.mk.inj (Option.some.inj h)
      have e : encB (a.toNat : Int) = [a] := (test1_iff a _ (by omega)).2 ha
      rw [e]; exact ⟨⟨by omega, by omega⟩, rfl, rfl⟩
    rw [if_neg ha] at h
    cases r with
    | nil => rw [get2_nil] at h; cases h
    | cons b r =>
      have bb := byte_lt b
      rw [get2_cons] at h
      by_cases hb : (b.toNat : Int) < 128
      · rw [if_pos hb] at h
        by_cases hb0 : (b.toNat : Int) = 0
        · rw [if_pos hb0] at h; cases h
        rw [if_neg hb0] at h
        obtain ⟨rfl, rfl⟩ := Prod.mk.inj (Option.some.inj h)
        have e : encB ((a.toNat : Int) % 128 + (b.toNat : Int) * 128) = [a, b] := (test2_iff a b _ (by omega)).2 ⟨by omega, hb, hb0⟩
        rw [e]; exact ⟨⟨by omega, by omega⟩, rfl, rfl⟩
      rw [if_neg hb] at h
      cases r with
      | nil => rw [get3_nil] at h; cases h
      | cons c r =>
        have bc := byte_lt c
        rw [get3_cons] at h
        by_cases hc : (c.toNat : Int) < 128
        · rw [if_pos hc] at h
          by_cases hc0 : (c.toNat : Int) = 0
          · rw [if_pos hc0] at h; cases h
          rw [if_neg hc0] at h
          obtain ⟨rfl, rfl⟩ := Prod.mk.inj (Option.some.inj h)
          have e : encB ((a.toNat : Int) % 128 + (b.toNat : Int) % 128 * 128 + (c.toNat : Int) * 16384) = [a, b, c] := (test3_iff a b c _ (by omega)).2 ⟨by omega, by omega, hc, hc0⟩
          rw [e]; exact ⟨⟨by omega, by omega⟩, rfl, rfl⟩
        rw [if_neg hc] at h; cases h

/-- Numbers, one behind the other, as bytes. -/
def bytesOf (l : List Int) : List UInt8 := l.flatMap encB
theorem bytesOf_nil : bytesOf [] = [] := rfl
theorem bytesOf_cons (x : Int) (l : List Int) : bytesOf (x :: l) = encB x ++ bytesOf l := rfl
theorem bytesOf_app (l m : List Int) : bytesOf (l ++ m) = bytesOf l ++ bytesOf m := List.flatMap_append

theorem getL_enc {x : Int} (h : Fine x) (r : List UInt8) : getL (encB x ++ r) = some (x, (encB x).length) := by
  rw [get_enc h.1 h.2]; unfold encB; rw [List.length_map]

/-- One reading alone. -/
theorem uniq : ∀ (xs ys : List Int) (r t : List UInt8), (∀ x ∈ xs, Fine x) → (∀ y ∈ ys, Fine y) → xs.length ≤ ys.length → bytesOf xs ++ r = bytesOf ys ++ t →
    ∃ zs, ys = xs ++ zs ∧ r = bytesOf zs ++ t
  | [], ys, r, t, _, _, _, h => ⟨ys, rfl, h⟩
  | x :: xs, [], _, _, _, _, hl, _ => by simp at hl
  | x :: xs, y :: ys, r, t, hx, hy, hl, h => by
    rw [bytesOf_cons, bytesOf_cons, List.append_assoc, List.append_assoc] at h
    have h1 := getL_enc (hx x (by simp)) (bytesOf xs ++ r)
    rw [h, getL_enc (hy y (by simp))] at h1
    have e : y = x := (Prod.mk.inj (Option.some.inj h1)).1
    subst e
    have h2 := List.append_cancel_left h
    obtain ⟨zs, rfl, e2⟩ := uniq xs ys r t (fun x h => hx x (by simp [h])) (fun x h => hy x (by simp [h])) (by simpa using hl) h2
    exact ⟨zs, rfl, e2⟩

/-- What is left behind so many numbers begins with a number, if more numbers were written. -/
theorem none_short {xs ys : List Int} {r t : List UInt8} (hx : ∀ x ∈ xs, Fine x) (hy : ∀ y ∈ ys, Fine y) (hl : xs.length < ys.length) (h : bytesOf xs ++ r = bytesOf ys ++ t) (hn : getL r = none) : False := by
  obtain ⟨zs, rfl, rfl⟩ := uniq xs ys r t hx hy (by omega) h
  match zs with
  | [] => simp at hl
  | z :: zs =>
    rw [bytesOf_cons, List.append_assoc, getL_enc (hy z (by simp))] at hn
    cases hn

theorem bytesOf_inj {xs ys : List Int} (hx : ∀ x ∈ xs, Fine x) (hy : ∀ y ∈ ys, Fine y) (h : bytesOf xs = bytesOf ys) : xs = ys := by
  by_cases hl : xs.length ≤ ys.length
  · obtain ⟨zs, rfl, e⟩ := uniq xs ys [] [] hx hy hl (by simpa using h)
    match zs with
    | [] => simp
    | z :: zs =>
      have := getL_enc (hy z (by simp)) (bytesOf zs)
      rw [← bytesOf_cons] at this
      simp only [List.append_nil] at e
      rw [← e] at this; cases this
  · obtain ⟨zs, rfl, e⟩ := uniq ys xs [] [] hy hx (by omega) (by simpa using h.symm)
    match zs with
    | [] => simp
    | z :: zs =>
      have := getL_enc (hx z (by simp)) (bytesOf zs)
      rw [← bytesOf_cons] at this
      simp only [List.append_nil] at e
      rw [← e] at this; cases this
end Go.Proofs.YtoepcplbpochpaaDoor

/-
  Lists of numbers as bytes: what lodgeref.written and leb.rangeBytes answer.
-/
namespace Go.Proofs.YtoepcplbpochpaaDoor
open Go.RowKit

/-- Numbers, one behind the other, as a string. -/
def wrS (l : List Int) : ByteArray := ⟨(bytesOf l).toArray⟩

theorem wrS_nil : wrS [] = ⟨#[]⟩ := rfl
theorem wrS_data (l : List Int) : (wrS l).data.toList = bytesOf l := rfl
theorem wrS_snoc (l : List Int) (x : Int) : wrS l ++ numS x = wrS (l ++ [x]) := by
  apply Go.WideShapes.bytes_inj
  rw [ByteArray.data_append, Array.toList_append, wrS_data, numS_data, wrS_data]
  unfold bytesOf
  rw [List.flatMap_append]; simp
theorem wrS_app (l m : List Int) : wrS l ++ wrS m = wrS (l ++ m) := by
  apply Go.WideShapes.bytes_inj
  rw [ByteArray.data_append, Array.toList_append, wrS_data, wrS_data, wrS_data]
  unfold bytesOf
  rw [List.flatMap_append]
theorem encB_le (x : Int) : (encB x).length ≤ 3 := by unfold encB; rw [List.length_map, enc_len]; split <;> (try split) <;> omega
theorem wrS_size_le (l : List Int) : (wrS l).size ≤ 3 * l.length := by
  rw [Lib.size_eq, wrS_data]; unfold bytesOf
  induction l with
  | nil => simp
  | cons x r ih => rw [List.flatMap_cons, List.length_append, List.length_cons]; have := encB_le x; omega

/-- The i-th number of a list. -/
theorem take_nth (l : List Int) (k : Nat) (h : k < l.length) : l.take (k + 1) = l.take k ++ [nth l k] := by
  rw [List.take_succ_eq_append_getElem h]; unfold nth; rw [List.getD_eq_getElem?_getD, List.getElem?_eq_getElem h]; rfl

theorem ret_str {a b : ByteArray} (h : a = b) : Ending.returned (.string a) = .returned (.string b) := by rw [h]

set_option maxRecDepth 100000 in
set_option maxHeartbeats 1000000 in
theorem written_any (l : List Int) (b off cap : Nat) (w : World) (hl : l.length ≤ 100000) (hb : b < w.heap.size) (hc : ∀ i, i < l.length → w.cell? ⟨b, off + i, none⟩ = some (.int .i64 (nth l i)))
    (hr : ∀ i, i < l.length → 0 ≤ nth l i ∧ nth l i ≤ 2097151) :
    Calls Tryd.prog 119 #[.slice (some ⟨b, off, none⟩) l.length cap] w fun e w' => e = .returned (.string (wrS l)) ∧ Below w.heap.size w w' := by
  go_enter Tryd.func119, Tryd.ntmps119
  go_wp2
  go_loopw [3, 4] (fun s i wr => ∃ k : Nat, k ≤ l.length ∧ i = .int .i64 k ∧ s = .string (wrS (l.take k)) ∧ Below w.heap.size w wr) (fun _ i _ => l.length - (intOf i).toNat)
  case atStart => exact ⟨0, Nat.zero_le _, rfl, rfl, Below.refl _ _⟩
  case round =>
    obtain ⟨k, hk, rfl, rfl, hbel⟩ := hrel
    by_cases hlt : k < l.length
    · have hcell := (hbel.cell (p := ⟨b, off + k, none⟩) hb).trans (hc k hlt)
      obtain ⟨r0, r1⟩ := hr k hlt
      have P : ∀ w, Calls Tryd.prog 117 #[.int .i64 (nth l k)] w fun e w' => e = .returned (.tuple #[.string (numS (nth l k)), .int .i64 0]) ∧ Below w.heap.size w w' := fun w => by
        have := refput_any (nth l k) w; rw [putR_yes r0 r1] at this; exact this
      have P := hide P
      have hs1 : (wrS (l.take k)).size ≤ 300000 := by have := wrS_size_le (l.take k); rw [List.length_take] at this; omega
      have hs2 : (numS (nth l k)).size ≤ 3 := by have := encB_le (nth l k); rw [Lib.size_eq, numS_data]; exact this
      have HS := hide (take_nth l k hlt)
      go_wp2_with fail
      refine (unhide P _).mono ?_
      rintro e w1 ⟨rfl, hb1⟩
      go_wp2
      go_roundw
      case rel => exact ⟨k + 1, by omega, by go_num, by rw [wrS_snoc, unhide HS], hbel.trans (hb1.mono hbel.size)⟩
      case measure => simp [intOf]; omega
    · have : k = l.length := by omega
      subst this
      go_wp2
      go_ret
      exact ⟨ret_str (by rw [List.take_length]), hbel⟩

/-- The five numbers that are written of a range. -/
def nums (r : Rg) : List Int := [r.v, r.f, r.t - r.f, r.k, r.a]

theorem nums_ok {r : Rg} (h : isRg r = true) : ∀ i, i < 5 → 0 ≤ nth (nums r) i ∧ nth (nums r) i ≤ 65535 := by
  unfold isRg at h
  rw [decide_eq_true_eq] at h
  intro i hi
  match i, hi with
  | 0, _ => show 0 ≤ r.v ∧ r.v ≤ 65535; omega
  | 1, _ => show 0 ≤ r.f ∧ r.f ≤ 65535; omega
  | 2, _ => show 0 ≤ r.t - r.f ∧ r.t - r.f ≤ 65535; omega
  | 3, _ => show 0 ≤ r.k ∧ r.k ≤ 65535; omega
  | 4, _ => show 0 ≤ r.a ∧ r.a ≤ 65535; omega

end Go.Proofs.YtoepcplbpochpaaDoor

/-
  What leb.getRange answers: five numbers, one behind the other, or the first fault.
-/
namespace Go.Proofs.YtoepcplbpochpaaDoor
open Go.RowKit

/-- Get of s at the place q gives the number x and the place p; or it is refused. -/
def Gives (s : ByteArray) (q x p : Int) : Prop := ∀ w, Calls Tryd.prog 88 #[.string s, .int .i64 q] w fun e w' => e = .returned (.tuple #[.int .i64 x, .int .i64 p, .int .i64 0]) ∧ w' = w
def Fails (s : ByteArray) (q : Int) : Prop := ∀ w, Calls Tryd.prog 88 #[.string s, .int .i64 q] w fun e w' => e = .returned (.tuple #[.int .i64 0, .int .i64 0, .int .i64 14]) ∧ w' = w

set_option maxRecDepth 100000 in
set_option maxHeartbeats 1000000 in
theorem getRange_bad0 (s : ByteArray) (q0 : Int) (w : World) (b : Fails s q0) :
    Calls Tryd.prog 89 #[.string s, .int .i64 q0] w fun e w' => e = .returned (.tuple #[.agg #[.int .i64 0, .int .i64 0, .int .i64 0, .int .i64 0, .int .i64 0], .int .i64 0, .int .i64 14]) ∧ Below w.heap.size w w' := by
  go_enter Tryd.func89, Tryd.ntmps89
  go_wp2
  refine wp_loop_rounds 6 ?_; rw [rounds_succ]
  go_wp2_with fail
  refine (b _).mono ?_
  rintro e w' ⟨rfl, hw⟩
  subst hw
  go_wp2
  exact bodyPost_ret (v := .tuple #[.agg #[.int .i64 0, .int .i64 0, .int .i64 0, .int .i64 0, .int .i64 0], .int .i64 0, .int .i64 14]) (by simp [results, Tryd.results89, go_sem]) rfl ⟨rfl, (((Below.refl _ _).alloc (Nat.le_refl _) _).alloc (by simp) _)⟩

set_option maxRecDepth 100000 in
set_option maxHeartbeats 1000000 in
theorem getRange_bad1 (s : ByteArray) (q0 q1 x0 : Int) (w : World) (g0 : Gives s q0 x0 q1) (b : Fails s q1) :
    Calls Tryd.prog 89 #[.string s, .int .i64 q0] w fun e w' => e = .returned (.tuple #[.agg #[.int .i64 0, .int .i64 0, .int .i64 0, .int .i64 0, .int .i64 0], .int .i64 0, .int .i64 14]) ∧ Below w.heap.size w w' := by
  go_enter Tryd.func89, Tryd.ntmps89
  go_wp2
  refine wp_loop_rounds 6 ?_; rw [rounds_succ]
  go_wp2_with fail
  refine (g0 _).mono ?_
  rintro e w' ⟨rfl, hw⟩
  subst hw
  go_wp2_with fail
  rw [rounds_succ]
  go_wp2_with fail
  refine (b _).mono ?_
  rintro e w' ⟨rfl, hw⟩
  subst hw
  go_wp2
  exact bodyPost_ret (v := .tuple #[.agg #[.int .i64 0, .int .i64 0, .int .i64 0, .int .i64 0, .int .i64 0], .int .i64 0, .int .i64 14]) (by simp [results, Tryd.results89, go_sem]) rfl ⟨rfl, (((Below.refl _ _).alloc (Nat.le_refl _) _).alloc (by simp) _)⟩

set_option maxRecDepth 100000 in
set_option maxHeartbeats 1000000 in
theorem getRange_bad2 (s : ByteArray) (q0 q1 q2 x0 x1 : Int) (w : World) (g0 : Gives s q0 x0 q1) (g1 : Gives s q1 x1 q2) (b : Fails s q2) :
    Calls Tryd.prog 89 #[.string s, .int .i64 q0] w fun e w' => e = .returned (.tuple #[.agg #[.int .i64 0, .int .i64 0, .int .i64 0, .int .i64 0, .int .i64 0], .int .i64 0, .int .i64 14]) ∧ Below w.heap.size w w' := by
  go_enter Tryd.func89, Tryd.ntmps89
  go_wp2
  refine wp_loop_rounds 6 ?_; rw [rounds_succ]
  go_wp2_with fail
  refine (g0 _).mono ?_
  rintro e w' ⟨rfl, hw⟩
  subst hw
  go_wp2_with fail
  rw [rounds_succ]
  go_wp2_with fail
  refine (g1 _).mono ?_
  rintro e w' ⟨rfl, hw⟩
  subst hw
  go_wp2_with fail
  rw [rounds_succ]
  go_wp2_with fail
  refine (b _).mono ?_
  rintro e w' ⟨rfl, hw⟩
  subst hw
  go_wp2
  exact bodyPost_ret (v := .tuple #[.agg #[.int .i64 0, .int .i64 0, .int .i64 0, .int .i64 0, .int .i64 0], .int .i64 0, .int .i64 14]) (by simp [results, Tryd.results89, go_sem]) rfl ⟨rfl, (((Below.refl _ _).alloc (Nat.le_refl _) _).alloc (by simp) _)⟩

set_option maxRecDepth 100000 in
set_option maxHeartbeats 1000000 in
theorem getRange_bad3 (s : ByteArray) (q0 q1 q2 q3 x0 x1 x2 : Int) (w : World) (g0 : Gives s q0 x0 q1) (g1 : Gives s q1 x1 q2) (g2 : Gives s q2 x2 q3) (b : Fails s q3) :
    Calls Tryd.prog 89 #[.string s, .int .i64 q0] w fun e w' => e = .returned (.tuple #[.agg #[.int .i64 0, .int .i64 0, .int .i64 0, .int .i64 0, .int .i64 0], .int .i64 0, .int .i64 14]) ∧ Below w.heap.size w w' := by
  go_enter Tryd.func89, Tryd.ntmps89
  go_wp2
  refine wp_loop_rounds 6 ?_; rw [rounds_succ]
  go_wp2_with fail
  refine (g0 _).mono ?_
  rintro e w' ⟨rfl, hw⟩
  subst hw
  go_wp2_with fail
  rw [rounds_succ]
  go_wp2_with fail
  refine (g1 _).mono ?_
  rintro e w' ⟨rfl, hw⟩
  subst hw
  go_wp2_with fail
  rw [rounds_succ]
  go_wp2_with fail
  refine (g2 _).mono ?_
  rintro e w' ⟨rfl, hw⟩
  subst hw
  go_wp2_with fail
  rw [rounds_succ]
  go_wp2_with fail
  refine (b _).mono ?_
  rintro e w' ⟨rfl, hw⟩
  subst hw
  go_wp2
  exact bodyPost_ret (v := .tuple #[.agg #[.int .i64 0, .int .i64 0, .int .i64 0, .int .i64 0, .int .i64 0], .int .i64 0, .int .i64 14]) (by simp [results, Tryd.results89, go_sem]) rfl ⟨rfl, (((Below.refl _ _).alloc (Nat.le_refl _) _).alloc (by simp) _)⟩

set_option maxRecDepth 100000 in
set_option maxHeartbeats 1000000 in
theorem getRange_bad4 (s : ByteArray) (q0 q1 q2 q3 q4 x0 x1 x2 x3 : Int) (w : World) (g0 : Gives s q0 x0 q1) (g1 : Gives s q1 x1 q2) (g2 : Gives s q2 x2 q3) (g3 : Gives s q3 x3 q4) (b : Fails s q4) :
    Calls Tryd.prog 89 #[.string s, .int .i64 q0] w fun e w' => e = .returned (.tuple #[.agg #[.int .i64 0, .int .i64 0, .int .i64 0, .int .i64 0, .int .i64 0], .int .i64 0, .int .i64 14]) ∧ Below w.heap.size w w' := by
  go_enter Tryd.func89, Tryd.ntmps89
  go_wp2
  refine wp_loop_rounds 6 ?_; rw [rounds_succ]
  go_wp2_with fail
  refine (g0 _).mono ?_
  rintro e w' ⟨rfl, hw⟩
  subst hw
  go_wp2_with fail
  rw [rounds_succ]
  go_wp2_with fail
  refine (g1 _).mono ?_
  rintro e w' ⟨rfl, hw⟩
  subst hw
  go_wp2_with fail
  rw [rounds_succ]
  go_wp2_with fail
  refine (g2 _).mono ?_
  rintro e w' ⟨rfl, hw⟩
  subst hw
  go_wp2_with fail
  rw [rounds_succ]
  go_wp2_with fail
  refine (g3 _).mono ?_
  rintro e w' ⟨rfl, hw⟩
  subst hw
  go_wp2_with fail
  rw [rounds_succ]
  go_wp2_with fail
  refine (b _).mono ?_
  rintro e w' ⟨rfl, hw⟩
  subst hw
  go_wp2
  exact bodyPost_ret (v := .tuple #[.agg #[.int .i64 0, .int .i64 0, .int .i64 0, .int .i64 0, .int .i64 0], .int .i64 0, .int .i64 14]) (by simp [results, Tryd.results89, go_sem]) rfl ⟨rfl, (((Below.refl _ _).alloc (Nat.le_refl _) _).alloc (by simp) _)⟩

set_option maxRecDepth 100000 in
set_option maxHeartbeats 1000000 in
theorem getRange_ok (s : ByteArray) (q0 q1 q2 q3 q4 q5 x0 x1 x2 x3 x4 : Int) (w : World) (g0 : Gives s q0 x0 q1) (g1 : Gives s q1 x1 q2) (g2 : Gives s q2 x2 q3) (g3 : Gives s q3 x3 q4) (g4 : Gives s q4 x4 q5) (h1 : 0 ≤ x1 ∧ x1 ≤ 2097151) (h2 : 0 ≤ x2 ∧ x2 ≤ 2097151) :
    Calls Tryd.prog 89 #[.string s, .int .i64 q0] w fun e w' => e = .returned (.tuple #[.agg #[.int .i64 x0, .int .i64 x1, .int .i64 (x1 + x2), .int .i64 x3, .int .i64 x4], .int .i64 q5, .int .i64 0]) ∧ Below w.heap.size w w' := by
  obtain ⟨h1, h3⟩ := h1
  obtain ⟨h2, h4⟩ := h2
  go_enter Tryd.func89, Tryd.ntmps89
  go_wp2
  refine wp_loop_rounds 6 ?_; rw [rounds_succ]
  go_wp2_with fail
  refine (g0 _).mono ?_
  rintro e w' ⟨rfl, hw⟩
  subst hw
  go_wp2_with fail
  rw [rounds_succ]
  go_wp2_with fail
  refine (g1 _).mono ?_
  rintro e w' ⟨rfl, hw⟩
  subst hw
  go_wp2_with fail
  rw [rounds_succ]
  go_wp2_with fail
  refine (g2 _).mono ?_
  rintro e w' ⟨rfl, hw⟩
  subst hw
  go_wp2_with fail
  rw [rounds_succ]
  go_wp2_with fail
  refine (g3 _).mono ?_
  rintro e w' ⟨rfl, hw⟩
  subst hw
  go_wp2_with fail
  rw [rounds_succ]
  go_wp2_with fail
  refine (g4 _).mono ?_
  rintro e w' ⟨rfl, hw⟩
  subst hw
  go_wp2_with fail
  rw [rounds_succ]
  go_wp2
  exact bodyPost_ret (v := .tuple #[.agg #[.int .i64 x0, .int .i64 x1, .int .i64 (x1 + x2), .int .i64 x3, .int .i64 x4], .int .i64 q5, .int .i64 0]) (by simp [results, Tryd.results89, go_sem]) rfl ⟨rfl, (((((Below.refl _ _).alloc (Nat.le_refl _) _).alloc (by simp) _)).alloc (by simp; omega) _)⟩

end Go.Proofs.YtoepcplbpochpaaDoor

/-
  What leb.Encode answers, of every list of ranges.
-/
namespace Go.Proofs.YtoepcplbpochpaaDoor
open Go.RowKit

/-- The numbers that are written of a table; its bytes as a string. -/
def flat (R : List Rg) : List Int := (R.length : Int) :: R.flatMap nums
def flatTo (R : List Rg) (k : Nat) : List Int := (R.length : Int) :: (R.take k).flatMap nums
def encAll (R : List Rg) : ByteArray := wrS (flat R)

theorem numS_wr (x : Int) : numS x = wrS [x] := by
  apply Go.WideShapes.bytes_inj
  rw [numS_data, wrS_data]; unfold bytesOf; simp
theorem flatMap_len (R : List Rg) : (R.flatMap nums).length = 5 * R.length := by
  induction R with
  | nil => rfl
  | cons r R ih => rw [List.flatMap_cons, List.length_append, ih, List.length_cons]; show 5 + _ = _; omega
theorem flatTo_len (R : List Rg) (k : Nat) : (flatTo R k).length ≤ 1 + 5 * k := by
  unfold flatTo; rw [List.length_cons, flatMap_len, List.length_take]; omega
theorem take_rg (R : List Rg) (k : Nat) (h : k < R.length) : R.take (k + 1) = R.take k ++ [rg R k] := by
  rw [List.take_succ_eq_append_getElem h]; unfold rg; rw [List.getD_eq_getElem?_getD, List.getElem?_eq_getElem h]; rfl
theorem flatTo_succ (R : List Rg) (k : Nat) (h : k < R.length) : flatTo R (k + 1) = flatTo R k ++ nums (rg R k) := by
  unfold flatTo; rw [take_rg R k h, List.flatMap_append]; simp
theorem flatTo_end (R : List Rg) : flatTo R R.length = flat R := by unfold flatTo flat; rw [List.take_length]

theorem isTab_len {R : List Rg} (h : isTab R = true) : R.length ≤ 200 := by
  unfold isTab at h; rw [Bool.and_eq_true, decide_eq_true_eq] at h; exact h.1
theorem isTab_rg {R : List Rg} (h : isTab R = true) {k : Nat} (hk : k < R.length) : isRg (rg R k) = true := by
  unfold isTab tabTo at h; rw [Bool.and_eq_true, List.all_eq_true] at h
  have := h.2 k (by rw [List.mem_range]; exact hk)
  rw [Bool.and_eq_true] at this; exact this.1

/-- What Encode answers. -/
def encV (R : List Rg) : Value := if isTab R = true then .tuple #[.string (encAll R), .int .i64 0] else .tuple #[.string ByteArray.empty, .int .i64 10]
theorem encV_yes {R : List Rg} (h : isTab R = true) : encV R = .tuple #[.string (encAll R), .int .i64 0] := by unfold encV; rw [if_pos h]
theorem encV_no {R : List Rg} (h : isTab R = false) : encV R = .tuple #[.string ByteArray.empty, .int .i64 10] := by unfold encV; rw [if_neg (by rw [h]; decide)]

theorem ret_str2 {a b : ByteArray} {z : Int} (h : a = b) : Ending.returned (.tuple #[.string a, .int .i64 z]) = .returned (.tuple #[.string b, .int .i64 z]) := by rw [h]

end Go.Proofs.YtoepcplbpochpaaDoor

/-
  What Get and getRange answer at a place of a string, by what stands there; and what tables a string can hold.
-/
namespace Go.Proofs.YtoepcplbpochpaaDoor
open Go.RowKit

/-- What stands in a string from a place on. -/
def D (s : ByteArray) (p : Nat) : List UInt8 := s.data.toList.drop p

theorem D_zero (s : ByteArray) : D s 0 = s.data.toList := rfl
theorem D_len (s : ByteArray) (p : Nat) : (D s p).length = s.size - p := by unfold D; rw [List.length_drop, ← Lib.size_eq]

theorem gives_or (s : ByteArray) (p : Nat) (hs : s.size ≤ maxLen) (hp : p ≤ s.size) :
    (∃ (x : Int) (q : Nat), Fine x ∧ D s p = encB x ++ D s q ∧ q ≤ s.size ∧ Gives s p x q) ∨ (getL (D s p) = none ∧ Fails s p) := by
  have hi : (p : Int) ≤ 9223372036854775807 := by unfold maxLen at hs; omega
  have G := fun w => get_any s (p : Int) w hs hi
  cases h : getL (D s p) with
  | none =>
    refine .inr ⟨rfl, fun w => ?_⟩
    have := G w
    rw [getR_none (k := p) h] at this
    exact this
  | some xj =>
    obtain ⟨x, j⟩ := xj
    obtain ⟨hf, hl, hj⟩ := getL_sound _ _ _ h
    have hq : p + j ≤ s.size := by
      have := congrArg List.length hl
      rw [List.length_append, List.length_drop, D_len, ← hj] at this
      omega
    refine .inl ⟨x, p + j, hf, ?_, hq, fun w => ?_⟩
    · rw [hl]; congr 1; unfold D; rw [List.drop_drop]
    · have := G w
      rw [getR_some (k := p) h] at this
      exact this

/-- A range as an aggregate. -/
def aggOf (r : Rg) : Value := .agg #[.int .i64 r.v, .int .i64 r.f, .int .i64 r.t, .int .i64 r.k, .int .i64 r.a]

/-- getRange at a place: a range and the place behind it; or no five numbers stand there. -/
theorem range_or (s : ByteArray) (p : Nat) (hs : s.size ≤ maxLen) (hp : p ≤ s.size) :
    (∃ (r : Rg) (q : Nat), (∀ x ∈ nums r, Fine x) ∧ D s p = bytesOf (nums r) ++ D s q ∧ q ≤ s.size ∧
      ∀ w, Calls Tryd.prog 89 #[.string s, .int .i64 p] w fun e w' => e = .returned (.tuple #[.agg #[.int .i64 r.v, .int .i64 r.f, .int .i64 r.t, .int .i64 r.k, .int .i64 r.a], .int .i64 q, .int .i64 0]) ∧ Below w.heap.size w w') ∨
    ((∀ ys t, ys.length = 5 → (∀ y ∈ ys, Fine y) → D s p ≠ bytesOf ys ++ t) ∧
      ∀ w, Calls Tryd.prog 89 #[.string s, .int .i64 p] w fun e w' => e = .returned (.tuple #[.agg #[.int .i64 0, .int .i64 0, .int .i64 0, .int .i64 0, .int .i64 0], .int .i64 0, .int .i64 14]) ∧ Below w.heap.size w w') := by
  rcases gives_or s p hs hp with ⟨x0, q1, f0, e0, l1, g0⟩ | ⟨n, b⟩
  case inr => exact .inr ⟨fun ys t hl hy h => none_short (xs := []) (by simp) hy (by simp; omega) h n, fun w => getRange_bad0 s _ w b⟩
  rcases gives_or s q1 hs l1 with ⟨x1, q2, f1, e1, l2, g1⟩ | ⟨n, b⟩
  case inr => exact .inr ⟨fun ys t hl hy h => none_short (xs := [x0]) (r := D s q1) (by simpa using f0) hy (by simp; omega) (by rw [← h, e0]; simp [bytesOf_cons, bytesOf_nil]) n, fun w => getRange_bad1 s _ _ _ w g0 b⟩
  rcases gives_or s q2 hs l2 with ⟨x2, q3, f2, e2, l3, g2⟩ | ⟨n, b⟩
  case inr => exact .inr ⟨fun ys t hl hy h => none_short (xs := [x0, x1]) (r := D s q2) (by simpa using ⟨f0, f1⟩) hy (by simp; omega) (by rw [← h, e0, e1]; simp [bytesOf_cons, bytesOf_nil]) n, fun w => getRange_bad2 s _ _ _ _ _ w g0 g1 b⟩
  rcases gives_or s q3 hs l3 with ⟨x3, q4, f3, e3, l4, g3⟩ | ⟨n, b⟩
  case inr => exact .inr ⟨fun ys t hl hy h => none_short (xs := [x0, x1, x2]) (r := D s q3) (by simpa using ⟨f0, f1, f2⟩) hy (by simp; omega) (by rw [← h, e0, e1, e2]; simp [bytesOf_cons, bytesOf_nil]) n, fun w => getRange_bad3 s _ _ _ _ _ _ _ w g0 g1 g2 b⟩
  rcases gives_or s q4 hs l4 with ⟨x4, q5, f4, e4, l5, g4⟩ | ⟨n, b⟩
  case inr => exact .inr ⟨fun ys t hl hy h => none_short (xs := [x0, x1, x2, x3]) (r := D s q4) (by simpa using ⟨f0, f1, f2, f3⟩) hy (by simp; omega) (by rw [← h, e0, e1, e2, e3]; simp [bytesOf_cons, bytesOf_nil]) n, fun w => getRange_bad4 s _ _ _ _ _ _ _ _ _ w g0 g1 g2 g3 b⟩
  have en : nums ⟨x0, x1, x1 + x2, x3, x4⟩ = [x0, x1, x2, x3, x4] := by unfold nums; simp; omega
  refine .inl ⟨⟨x0, x1, x1 + x2, x3, x4⟩, q5, ?_, ?_, l5, fun w => getRange_ok s _ _ _ _ _ _ _ _ _ _ _ w g0 g1 g2 g3 g4 f1 f2⟩
  · rw [en]; simpa using ⟨f0, f1, f2, f3, f4⟩
  · rw [en, e0, e1, e2, e3, e4]; simp [bytesOf_cons, bytesOf_nil]

/-! ### Which table a string holds -/
def TabS (s : ByteArray) (R : List Rg) : Prop := isTab R = true ∧ bytesOf (flat R) = s.data.toList

theorem flat_fine {R : List Rg} (h : isTab R = true) : ∀ x ∈ flat R, Fine x := by
  intro x hx
  unfold flat at hx
  rw [List.mem_cons, List.mem_flatMap] at hx
  rcases hx with rfl | ⟨r, hr, hx⟩
  · have := isTab_len h; exact ⟨by omega, by omega⟩
  · obtain ⟨k, hk, rfl⟩ := List.mem_iff_getElem.1 hr
    have e : R[k] = rg R k := by unfold rg; rw [List.getD_eq_getElem?_getD, List.getElem?_eq_getElem hk]; rfl
    rw [e] at hx
    have ok := nums_ok (isTab_rg h hk)
    obtain ⟨i, hi, rfl⟩ := List.mem_iff_getElem.1 hx
    have := ok i hi
    unfold nth at this
    rw [List.getD_eq_getElem?_getD, List.getElem?_eq_getElem hi] at this
    have h2 : 0 ≤ (nums (rg R k))[i] ∧ (nums (rg R k))[i] ≤ 65535 := this
    exact ⟨h2.1, by omega⟩

theorem nums_inj {r q : Rg} (h : nums r = nums q) : r = q := by
  unfold nums at h
  simp only [List.cons.injEq, and_true] at h
  obtain ⟨a, b, c, d, e⟩ := h
  obtain ⟨v, f, t, k, x⟩ := r
  obtain ⟨v2, f2, t2, k2, x2⟩ := q
  simp only [Rg.mk.injEq] at *
  omega

theorem flatMap_inj : ∀ {P Q : List Rg}, P.flatMap nums = Q.flatMap nums → P = Q
  | [], [], _ => rfl
  | [], q :: Q, h => by have := congrArg List.length h; rw [flatMap_len, flatMap_len] at this; simp at this
  | p :: P, [], h => by have := congrArg List.length h; rw [flatMap_len, flatMap_len] at this; simp at this
  | p :: P, q :: Q, h => by
    rw [List.flatMap_cons, List.flatMap_cons] at h
    obtain ⟨h1, h2⟩ := List.append_inj h rfl
    rw [nums_inj h1, flatMap_inj h2]

theorem tab_uniq {s : ByteArray} {P Q : List Rg} (hp : TabS s P) (hq : TabS s Q) : P = Q := by
  have := bytesOf_inj (flat_fine hp.1) (flat_fine hq.1) (hp.2.trans hq.2.symm)
  unfold flat at this
  exact flatMap_inj (List.cons.inj this).2

/-- A table begins with its length. -/
theorem tab_head {s : ByteArray} {R : List Rg} (h : TabS s R) : getL s.data.toList = some ((R.length : Int), (encB (R.length : Int)).length) := by
  rw [← h.2]; unfold flat; rw [bytesOf_cons]
  exact getL_enc (flat_fine h.1 _ (by simp [flat])) _

/-- So far as it is read: count, then the ranges Q, then what is left from p on. -/
def ReadTo (s : ByteArray) (count : Int) (Q : List Rg) (p : Nat) : Prop :=
  s.data.toList = encB count ++ (bytesOf (Q.flatMap nums) ++ D s p) ∧ (∀ r ∈ Q, ∀ x ∈ nums r, Fine x) ∧ Fine count

theorem read_fine {s : ByteArray} {count : Int} {Q : List Rg} {p : Nat} (h : ReadTo s count Q p) : ∀ x ∈ count :: Q.flatMap nums, Fine x := by
  intro x hx
  rw [List.mem_cons, List.mem_flatMap] at hx
  rcases hx with rfl | ⟨r, hr, hx⟩
  · exact h.2.2
  · exact h.2.1 r hr x hx

theorem tab_rest {s : ByteArray} {count : Int} {Q R : List Rg} {p : Nat} (h : ReadTo s count Q p) (ht : TabS s R) (hl : (Q.length : Int) ≤ count) :
    (R.length : Int) = count ∧ ∃ zs, R.flatMap nums = Q.flatMap nums ++ zs ∧ D s p = bytesOf zs ∧ ∀ x ∈ zs, Fine x := by
  have e1 := tab_head ht
  rw [h.1, getL_enc h.2.2] at e1
  have ec : count = (R.length : Int) := (Prod.mk.inj (Option.some.inj e1)).1
  have e2 : bytesOf (count :: Q.flatMap nums) ++ D s p = bytesOf (flat R) ++ [] := by
    rw [List.append_nil, ht.2, h.1, bytesOf_cons, List.append_assoc]
  obtain ⟨zs, e3, e4⟩ := uniq _ _ _ _ (read_fine h) (flat_fine ht.1) (by
    unfold flat; rw [List.length_cons, List.length_cons, flatMap_len, flatMap_len]; omega) e2
  refine ⟨ec.symm, zs, ?_, by simpa using e4, fun x hx => flat_fine ht.1 x (by rw [e3]; simp [hx])⟩
  unfold flat at e3
  exact (List.cons.inj e3).2

theorem read_bad {s : ByteArray} {count : Int} {Q : List Rg} {p : Nat} (h : ReadTo s count Q p) (hl : (Q.length : Int) < count)
    (hb : ∀ ys t, ys.length = 5 → (∀ y ∈ ys, Fine y) → D s p ≠ bytesOf ys ++ t) : ∀ R, ¬ TabS s R := by
  intro R ht
  obtain ⟨ec, zs, e1, e2, hf⟩ := tab_rest h ht (by omega)
  have hz : 5 ≤ zs.length := by
    have := congrArg List.length e1
    rw [List.length_append, flatMap_len, flatMap_len] at this; omega
  refine hb (zs.take 5) (bytesOf (zs.drop 5)) (by rw [List.length_take]; omega) (fun y hy => hf y (List.mem_of_mem_take hy)) ?_
  rw [e2, ← bytesOf_app, List.take_append_drop]

theorem read_end {s : ByteArray} {count : Int} {Q R : List Rg} {p : Nat} (h : ReadTo s count Q p) (hl : (Q.length : Int) = count) (ht : TabS s R) : R = Q ∧ D s p = [] := by
  obtain ⟨ec, zs, e1, e2, hf⟩ := tab_rest h ht (by omega)
  have hz : zs = [] := by
    have := congrArg List.length e1
    rw [List.length_append, flatMap_len, flatMap_len] at this
    exact List.length_eq_zero_iff.1 (by omega)
  subst hz
  rw [List.append_nil] at e1
  exact ⟨flatMap_inj e1, by rw [e2]; rfl⟩

theorem read_next {s : ByteArray} {count : Int} {Q : List Rg} {p q : Nat} {r : Rg} (h : ReadTo s count Q p) (hr : ∀ x ∈ nums r, Fine x) (e : D s p = bytesOf (nums r) ++ D s q) : ReadTo s count (Q ++ [r]) q := by
  refine ⟨?_, ?_, h.2.2⟩
  · rw [h.1, e, List.flatMap_append, bytesOf_app, List.append_assoc]; simp
  · intro x hx
    rw [List.mem_append, List.mem_singleton] at hx
    rcases hx with hx | rfl
    · exact h.2.1 x hx
    · exact hr

theorem read_tab {s : ByteArray} {count : Int} {Q : List Rg} {p : Nat} (h : ReadTo s count Q p) (hl : (Q.length : Int) = count) (hp : D s p = []) (ht : isTab Q = true) : TabS s Q := by
  refine ⟨ht, ?_⟩
  rw [h.1, hp, List.append_nil, ← hl]
  rfl

end Go.Proofs.YtoepcplbpochpaaDoor

/-
  What lodgeref.IsTable answers, of every list of ranges: just what leb.isTable answers, though it looks at every pair.
-/
namespace Go.Proofs.YtoepcplbpochpaaDoor
open Go.RowKit

/-! ### The plain mathematics: neighbours decide of all pairs -/
def before (x y : Rg) : Prop := x.v < y.v ∨ x.v = y.v ∧ x.t ≤ y.f

theorem before_of_follows {x y : Rg} (h : follows x y = true) : before x y := by
  unfold follows at h; unfold before
  by_cases a : x.v = y.v
  · by_cases b : x.t = y.f
    · omega
    · simp [a, b] at h; omega
  · simp [a] at h; omega
theorem before_trans {x y z : Rg} (h : before x y) (h' : before y z) (hy : y.f < y.t) : before x z := by
  unfold before at *; omega
theorem behind_true (x y : Rg) : behind x y true = follows x y := by
  unfold behind follows
  by_cases a : x.v = y.v
  · by_cases b : x.t = y.f
    · simp [a, b]
    · by_cases c : y.f < x.t
      · simp [a, b, c]; omega
      · have : x.t < y.f := by omega
        simp [a, b, c, this]
  · simp [a]
theorem behind_false {x y : Rg} (h : before x y) : behind x y false = true := by
  unfold behind; unfold before at h
  by_cases a : x.v = y.v
  · simp [a]; omega
  · simp [a]; omega

theorem isRg_lt {r : Rg} (h : isRg r = true) : r.f < r.t := by unfold isRg at h; rw [decide_eq_true_eq] at h; omega

theorem tab_at {R : List Rg} {n k : Nat} (h : tabTo R n = true) (hk : k < n) : isRg (rg R k) = true ∧ (k = 0 ∨ follows (rg R (k - 1)) (rg R k) = true) := by
  unfold tabTo at h; rw [List.all_eq_true] at h
  have := h k (by rw [List.mem_range]; exact hk)
  simpa using this

theorem tab_before {R : List Rg} {n : Nat} (h : tabTo R n = true) : ∀ k, k < n → ∀ j, j < k → before (rg R j) (rg R k) := by
  intro k
  induction k with
  | zero => intro _ j hj; omega
  | succ k ih =>
    intro hk j hj
    have f := before_of_follows ((tab_at h hk).2.resolve_left (by omega))
    rw [Nat.add_sub_cancel] at f
    by_cases e : j = k
    · subst e; exact f
    · exact before_trans (ih (by omega) j (by omega)) f (isRg_lt (tab_at h (by omega : k < n)).1)

/-- What a true table says of each pair. -/
theorem tab_behind {R : List Rg} {n k j : Nat} (h : tabTo R n = true) (hk : k < n) (hj : j < k) : behind (rg R j) (rg R k) (decide ((j : Int) = (k : Int) - 1)) = true := by
  by_cases e : (j : Int) = (k : Int) - 1
  · rw [decide_eq_true e, behind_true]
    have := (tab_at h hk).2.resolve_left (by omega)
    rw [show k - 1 = j by omega] at this; exact this
  · rw [decide_eq_false e]; exact behind_false (tab_before h k hk j hj)

/-- Pairs behind one another. -/
def pairsTo (R : List Rg) (k j : Nat) : Prop := ∀ i, i < j → behind (rg R i) (rg R k) (decide ((i : Int) = (k : Int) - 1)) = true

theorem tab_next {R : List Rg} {k : Nat} (h : tabTo R k = true) (hr : isRg (rg R k) = true) (hp : pairsTo R k k) : tabTo R (k + 1) = true := by
  rw [tabTo_succ, h, hr]
  by_cases h0 : k = 0
  · simp [h0]
  · have := hp (k - 1) (by omega)
    rw [decide_eq_true (by omega), behind_true] at this
    simp [this]

set_option maxRecDepth 100000 in
set_option maxHeartbeats 1000000 in
theorem refTable_some (R : List Rg) (b off cap : Nat) (w : World) (hL : Lie w b off R) (hb : b < w.heap.size) (hlen : R.length ≤ 9223372036854775807) :
    Calls Tryd.prog 118 #[.slice (some ⟨b, off, none⟩) R.length cap] w fun e w' => e = .returned (.bool (isTab R)) ∧ Below w.heap.size w w' := by
  by_cases h200 : R.length ≤ 200
  case neg =>
    have e : isTab R = false := by simp [isTab, h200]
    rw [e]
    go_enter Tryd.func118, Tryd.ntmps118
    go_wp2
    go_ret
    exact ⟨rfl, Below.refl _ _⟩
  have e : isTab R = tabTo R R.length := by simp [isTab, h200]
  rw [e]
  clear e
  go_enter Tryd.func118, Tryd.ntmps118
  go_wp2
  go_loopw [3, 4, 5] (fun i _ _ wr => ∃ k : Nat, k ≤ R.length ∧ i = .int .i64 k ∧ tabTo R k = true ∧ Below w.heap.size w wr) (fun i _ _ _ => R.length - (intOf i).toNat)
  case atStart => exact ⟨0, Nat.zero_le _, rfl, rfl, Below.refl _ _⟩
  case round =>
    obtain ⟨k, hk, rfl, htab, hbel⟩ := hrel
    have HT := hide htab
    clear htab
    by_cases hlt : k < R.length
    case neg =>
      have : k = R.length := by omega
      subst this
      go_wp2
      go_ret
      exact ⟨ret_bool (unhide HT).symm, hbel⟩
    have C1 := hide (fun w => one_any (rg R k) w)
    have hc := hide ((hL k hlt).below hbel hb)
    cases hr : isRg (rg R k)
    · have hf : tabTo R R.length = false := by
        cases h : tabTo R R.length
        · rfl
        · have := tabTo_mono R (show k + 1 ≤ R.length by omega) h
          rw [tabTo_succ, hr] at this; simp at this
      have HF := hide hf
      rw [hr] at C1
      obtain ⟨c0, c1, c2, c3, c4⟩ := unhide hc
      clear hr hf hc
      go_wp2_with fail
      refine (unhide C1 _).mono ?_
      rintro e w1 ⟨rfl, hb1⟩
      go_wp2
      go_ret
      exact ⟨ret_bool (unhide HF).symm, hbel.trans (hb1.mono hbel.size)⟩
    · rw [hr] at C1
      have HR := hide hr
      obtain ⟨c0, c1, c2, c3, c4⟩ := unhide hc
      clear hr hc
      go_wp2_with fail
      refine (unhide C1 _).mono ?_
      rintro e w1 ⟨rfl, hb1⟩
      have hb2 := hbel.trans (hb1.mono hbel.size)
      clear c0 c1 c2 c3 c4 hb1 hbel
      go_wp2
      go_loopw [4, 5] (fun _ i wr => ∃ j : Nat, j ≤ k ∧ i = .int .i64 j ∧ pairsTo R k j ∧ Below w.heap.size w wr) (fun _ i _ => k - (intOf i).toNat)
      case atStart => exact ⟨0, Nat.zero_le _, rfl, fun i hi => absurd hi (by omega), hb2⟩
      case round =>
        obtain ⟨j, hj, rfl, hp, hbel⟩ := hrel
        have HP := hide hp
        clear hp
        by_cases hjk : j < k
        case neg =>
          have hjk' : j = k := by omega
          have hp : pairsTo R k k := by have := unhide HP; rw [hjk'] at this; exact this
          have hn : tabTo R (k + 1) = true := tab_next (unhide HT) (unhide HR) hp
          clear hp hjk'
          have HN := hide hn
          clear hn
          go_wp2
          go_roundw
          case rel => exact ⟨k + 1, by omega, by go_num, unhide HN, hbel⟩
          case measure => simp [intOf]; omega
        have C2 := hide (fun w => pair_any (rg R j) (rg R k) ((j : Int) == (k : Int) - 1) w)
        have i1 : (j : Int) < (R.length : Int) := by omega
        have i3 : (k : Int) < (R.length : Int) := by omega
        have i5 : IntKind.i64.wrap ((k : Int) - 1) = (k : Int) - 1 := by rw [IntKind.wrap_i64]; omega
        obtain ⟨d0, d1, d2, d3, d4⟩ := (hL k hlt).below hbel hb
        obtain ⟨p0, p1, p2, p3, p4⟩ := (hL j (by omega)).below hbel hb
        cases hf : behind (rg R j) (rg R k) ((j : Int) == (k : Int) - 1)
        · rw [hf] at C2
          have hn : tabTo R R.length = false := by
            cases h : tabTo R R.length
            · rfl
            · have := tab_behind h hlt hjk
              exact absurd (hf.symm.trans this) (by decide)
          have HN := hide hn
          clear hn hf
          go_wp2_with fail
          go_region_held3 (fun w' => (w'.cell? ⟨b, off + k * 5, none⟩ = some (.int .i64 (rg R k).v) ∧ w'.cell? ⟨b, off + k * 5 + 1, none⟩ = some (.int .i64 (rg R k).f) ∧ w'.cell? ⟨b, off + k * 5 + 2, none⟩ = some (.int .i64 (rg R k).t) ∧ w'.cell? ⟨b, off + k * 5 + 3, none⟩ = some (.int .i64 (rg R k).k) ∧ w'.cell? ⟨b, off + k * 5 + 4, none⟩ = some (.int .i64 (rg R k).a)) ∧
            w'.cell? ⟨b, off + j * 5, none⟩ = some (.int .i64 (rg R j).v) ∧ w'.cell? ⟨b, off + j * 5 + 1, none⟩ = some (.int .i64 (rg R j).f) ∧ w'.cell? ⟨b, off + j * 5 + 2, none⟩ = some (.int .i64 (rg R j).t) ∧ w'.cell? ⟨b, off + j * 5 + 3, none⟩ = some (.int .i64 (rg R j).k) ∧ w'.cell? ⟨b, off + j * 5 + 4, none⟩ = some (.int .i64 (rg R j).a)) (simp [*])
            (first | (go_at_call 134; refine (unhide C2 _).mono ?_; rintro e w2 ⟨rfl, hb3⟩; have hb4 := (hbel.drew).trans (hb3.mono (by simpa using hbel.size)); obtain ⟨q0, q1, q2, q3, q4⟩ := (hL k hlt).below hb4 hb; obtain ⟨s0, s1, s2, s3, s4⟩ := (hL j (by omega)).below hb4 hb))
          go_wp2
          go_ret
          exact ⟨ret_bool (unhide HN).symm, by assumption⟩
        · rw [hf] at C2
          have hp : pairsTo R k (j + 1) := fun i hi => by
            by_cases e : i = j
            · subst e; exact hf
            · exact unhide HP i (by omega)
          have HN := hide hp
          clear hp hf
          go_wp2_with fail
          go_region_held3 (fun w' => (w'.cell? ⟨b, off + k * 5, none⟩ = some (.int .i64 (rg R k).v) ∧ w'.cell? ⟨b, off + k * 5 + 1, none⟩ = some (.int .i64 (rg R k).f) ∧ w'.cell? ⟨b, off + k * 5 + 2, none⟩ = some (.int .i64 (rg R k).t) ∧ w'.cell? ⟨b, off + k * 5 + 3, none⟩ = some (.int .i64 (rg R k).k) ∧ w'.cell? ⟨b, off + k * 5 + 4, none⟩ = some (.int .i64 (rg R k).a)) ∧
            w'.cell? ⟨b, off + j * 5, none⟩ = some (.int .i64 (rg R j).v) ∧ w'.cell? ⟨b, off + j * 5 + 1, none⟩ = some (.int .i64 (rg R j).f) ∧ w'.cell? ⟨b, off + j * 5 + 2, none⟩ = some (.int .i64 (rg R j).t) ∧ w'.cell? ⟨b, off + j * 5 + 3, none⟩ = some (.int .i64 (rg R j).k) ∧ w'.cell? ⟨b, off + j * 5 + 4, none⟩ = some (.int .i64 (rg R j).a)) (simp [*])
            (first | (go_at_call 134; refine (unhide C2 _).mono ?_; rintro e w2 ⟨rfl, hb3⟩; have hb4 := (hbel.drew).trans (hb3.mono (by simpa using hbel.size)); obtain ⟨q0, q1, q2, q3, q4⟩ := (hL k hlt).below hb4 hb; obtain ⟨s0, s1, s2, s3, s4⟩ := (hL j (by omega)).below hb4 hb))
          go_wp2
          go_roundw
          case rel => exact ⟨j + 1, by omega, by go_num, unhide HN, by assumption⟩
          case measure => simp [intOf]; omega

theorem refTable_nil (ao : Option Addr) (cap : Nat) (w : World) :
    Calls Tryd.prog 118 #[.slice ao 0 cap] w fun e w' => e = .returned (.bool (isTab [])) ∧ Below w.heap.size w w' := by
  go_enter Tryd.func118, Tryd.ntmps118
  go_wp2
  refine wp_loop_rounds 1 ?_; rw [rounds_succ]
  go_wp2
  go_ret
  exact ⟨rfl, Below.refl _ _⟩

theorem refTable_any (R : List Rg) (ao : Option Addr) (cap : Nat) (w : World) (hL : Held w ao R) (hlen : R.length ≤ 9223372036854775807) :
    Calls Tryd.prog 118 #[.slice ao R.length cap] w fun e w' => e = .returned (.bool (isTab R)) ∧ Below w.heap.size w w' := by
  rcases hL with rfl | ⟨b, off, rfl, hb, hL⟩
  · exact refTable_nil ao cap w
  · exact refTable_some R b off cap w hL hb hlen
end Go.Proofs.YtoepcplbpochpaaDoor
