/-
  Plain mathematics of numbers as bytes: what a number's bytes are, and what number stands at the head of a list of bytes. No Go here.
-/
import Derived.Laws.BytesArg
import Derived.Test.YtoepcplbpochpaaDoorRows
import Derived.Test.YtoepcplbpochpaaDoorPart1
import Derived.WalkKit
import Derived.WalkSpells
import Derived.WalkLawsBesides
import Derived.Deep.RegionHeld3
import Derived.Deep.QuietTactic
import Derived.BigQuiet
import Derived.Lib.Strings

namespace Go.Proofs.YtoepcplbpochpaaDoor

/-- The bytes of a number, lowest seven bits first. -/
def encI (n : Int) : List Int :=
  if n < 128 then [n] else if n < 16384 then [n % 128 + 128, n / 128] else [n % 128 + 128, n / 128 % 128 + 128, n / 16384]

theorem enc_one {n : Int} (h : n < 128) : encI n = [n] := by unfold encI; rw [if_pos h]
theorem enc_two {n : Int} (h : ¬ n < 128) (h' : n < 16384) : encI n = [n % 128 + 128, n / 128] := by unfold encI; rw [if_neg h, if_pos h']
theorem enc_three {n : Int} (h' : ¬ n < 16384) : encI n = [n % 128 + 128, n / 128 % 128 + 128, n / 16384] := by unfold encI; rw [if_neg (by omega), if_neg h']

theorem enc_step {n : Int} (h : 128 ≤ n) (h' : n ≤ 2097151) : encI n = (n % 128 + 128) :: encI (n / 128) := by
  by_cases a : n < 16384
  · rw [enc_two (by omega) a, enc_one (by omega)]
  · rw [enc_three a, enc_two (by omega) (by omega)]
    congr 3
    omega

/-- The string of a number. -/
def numS (n : Int) : ByteArray := strOfNums (encI n)

/-- The third byte of a number. -/
def get3 (u : Int) : List UInt8 → Option (Int × Nat)
  | [] => none
  | c :: _ => if (c.toNat : Int) < 128 then (if (c.toNat : Int) = 0 then none else some (u + (c.toNat : Int) * 16384, 3)) else none
/-- The second byte of a number. -/
def get2 (u : Int) : List UInt8 → Option (Int × Nat)
  | [] => none
  | b :: r => if (b.toNat : Int) < 128 then (if (b.toNat : Int) = 0 then none else some (u + (b.toNat : Int) * 128, 2)) else get3 (u + (b.toNat : Int) % 128 * 128) r
/-- The number that stands at the head of a list of bytes, and how many bytes it takes. -/
def getL : List UInt8 → Option (Int × Nat)
  | [] => none
  | a :: r => if (a.toNat : Int) < 128 then some ((a.toNat : Int), 1) else get2 ((a.toNat : Int) % 128) r

theorem drop_nil {s : ByteArray} {k : Nat} (h : s.size ≤ k) : s.data.toList.drop k = [] := List.drop_of_length_le (by simpa using h)
theorem drop_cons {s : ByteArray} {k : Nat} (h : k < s.size) : s.data.toList.drop k = s[k] :: s.data.toList.drop (k + 1) := by
  rw [List.drop_eq_getElem_cons (by simpa using h)]; rfl

/-- What Get answers at a place within int's nought and more. -/
def getR (s : ByteArray) (i : Int) : Value :=
  if i < 0 then .tuple #[.int .i64 0, .int .i64 0, .int .i64 14] else
  match getL (s.data.toList.drop i.toNat) with
  | none => .tuple #[.int .i64 0, .int .i64 0, .int .i64 14]
  | some (v, k) => .tuple #[.int .i64 v, .int .i64 (i + k), .int .i64 0]

theorem getR_neg {s : ByteArray} {i : Int} (h : i < 0) : getR s i = .tuple #[.int .i64 0, .int .i64 0, .int .i64 14] := by unfold getR; rw [if_pos h]
theorem getR_none {s : ByteArray} {k : Nat} (h : getL (s.data.toList.drop k) = none) : getR s k = .tuple #[.int .i64 0, .int .i64 0, .int .i64 14] := by
  unfold getR; rw [if_neg (by omega), Int.toNat_natCast, h]
theorem getR_some {s : ByteArray} {k : Nat} {v : Int} {j : Nat} (h : getL (s.data.toList.drop k) = some (v, j)) : getR s k = .tuple #[.int .i64 v, .int .i64 (k + j), .int .i64 0] := by
  unfold getR; rw [if_neg (by omega), Int.toNat_natCast, h]

theorem getL_cons (a : UInt8) (r : List UInt8) : getL (a :: r) = if (a.toNat : Int) < 128 then some ((a.toNat : Int), 1) else get2 ((a.toNat : Int) % 128) r := rfl
theorem get2_cons (u : Int) (b : UInt8) (r : List UInt8) : get2 u (b :: r) = if (b.toNat : Int) < 128 then (if (b.toNat : Int) = 0 then none else some (u + (b.toNat : Int) * 128, 2)) else get3 (u + (b.toNat : Int) % 128 * 128) r := rfl
theorem get3_cons (u : Int) (c : UInt8) (r : List UInt8) : get3 u (c :: r) = if (c.toNat : Int) < 128 then (if (c.toNat : Int) = 0 then none else some (u + (c.toNat : Int) * 16384, 3)) else none := rfl
theorem get2_nil (u : Int) : get2 u [] = none := rfl
theorem get3_nil (u : Int) : get3 u [] = none := rfl
theorem getL_nil : getL [] = none := rfl
theorem getL_a {a : UInt8} (r : List UInt8) (h : (a.toNat : Int) < 128) : getL (a :: r) = some ((a.toNat : Int), 1) := by rw [getL_cons, if_pos h]
theorem getL_a_end {a : UInt8} (h : ¬ (a.toNat : Int) < 128) : getL [a] = none := by rw [getL_cons, if_neg h, get2_nil]
theorem getL_b_zero {a b : UInt8} (r : List UInt8) (h : ¬ (a.toNat : Int) < 128) (h' : (b.toNat : Int) = 0) : getL (a :: b :: r) = none := by
  rw [getL_cons, if_neg h, get2_cons, if_pos (by omega), if_pos h']
theorem getL_b {a b : UInt8} (r : List UInt8) (h : ¬ (a.toNat : Int) < 128) (h1 : (b.toNat : Int) < 128) (h' : ¬ (b.toNat : Int) = 0) : getL (a :: b :: r) = some ((a.toNat : Int) % 128 + (b.toNat : Int) * 128, 2) := by
  rw [getL_cons, if_neg h, get2_cons, if_pos h1, if_neg h']
theorem getL_b_end {a b : UInt8} (h : ¬ (a.toNat : Int) < 128) (h1 : ¬ (b.toNat : Int) < 128) : getL [a, b] = none := by
  rw [getL_cons, if_neg h, get2_cons, if_neg h1, get3_nil]
theorem getL_c_zero {a b c : UInt8} (r : List UInt8) (h : ¬ (a.toNat : Int) < 128) (h1 : ¬ (b.toNat : Int) < 128) (h' : (c.toNat : Int) = 0) : getL (a :: b :: c :: r) = none := by
  rw [getL_cons, if_neg h, get2_cons, if_neg h1, get3_cons, if_pos (by omega), if_pos h']
theorem getL_c {a b c : UInt8} (r : List UInt8) (h : ¬ (a.toNat : Int) < 128) (h1 : ¬ (b.toNat : Int) < 128) (h2 : (c.toNat : Int) < 128) (h' : ¬ (c.toNat : Int) = 0) :
    getL (a :: b :: c :: r) = some ((a.toNat : Int) % 128 + (b.toNat : Int) % 128 * 128 + (c.toNat : Int) * 16384, 3) := by
  rw [getL_cons, if_neg h, get2_cons, if_neg h1, get3_cons, if_pos h2, if_neg h']
theorem getL_c_no {a b c : UInt8} (r : List UInt8) (h : ¬ (a.toNat : Int) < 128) (h1 : ¬ (b.toNat : Int) < 128) (h2 : ¬ (c.toNat : Int) < 128) : getL (a :: b :: c :: r) = none := by
  rw [getL_cons, if_neg h, get2_cons, if_neg h1, get3_cons, if_neg h2]

section
variable {s : ByteArray} {k : Nat}
theorem drop_two (h : k + 1 < s.size) : s.data.toList.drop k = s[k] :: s[k + 1] :: s.data.toList.drop (k + 1 + 1) := by
  rw [drop_cons (by omega), drop_cons h]
theorem drop_three (h : k + 1 + 1 < s.size) : s.data.toList.drop k = s[k] :: s[k + 1] :: s[k + 1 + 1] :: s.data.toList.drop (k + 1 + 1 + 1) := by
  rw [drop_two (by omega), drop_cons h]
theorem get_out (h : s.size ≤ k) : getL (s.data.toList.drop k) = none := (congrArg getL (drop_nil h)).trans rfl
theorem get_a (h : k < s.size) (a : ((s[k]).toNat : Int) < 128) : getL (s.data.toList.drop k) = some (((s[k]).toNat : Int), 1) :=
  (congrArg getL (drop_cons h)).trans (getL_a _ a)
theorem get_a_end (h : k < s.size) (a : ¬ ((s[k]).toNat : Int) < 128) (h' : s.size ≤ k + 1) : getL (s.data.toList.drop k) = none :=
  (congrArg getL ((drop_cons h).trans (congrArg _ (drop_nil h')))).trans (getL_a_end a)
theorem get_b_zero (h : k + 1 < s.size) (a : ¬ ((s[k]).toNat : Int) < 128) (b : ((s[k + 1]).toNat : Int) = 0) : getL (s.data.toList.drop k) = none :=
  (congrArg getL (drop_two h)).trans (getL_b_zero _ a b)
theorem get_b (h : k + 1 < s.size) (a : ¬ ((s[k]).toNat : Int) < 128) (b : ((s[k + 1]).toNat : Int) < 128) (b' : ¬ ((s[k + 1]).toNat : Int) = 0) :
    getL (s.data.toList.drop k) = some (((s[k]).toNat : Int) % 128 + ((s[k + 1]).toNat : Int) * 128, 2) :=
  (congrArg getL (drop_two h)).trans (getL_b _ a b b')
theorem get_b_end (h : k + 1 < s.size) (a : ¬ ((s[k]).toNat : Int) < 128) (b : ¬ ((s[k + 1]).toNat : Int) < 128) (h' : s.size ≤ k + 1 + 1) : getL (s.data.toList.drop k) = none :=
  (congrArg getL ((drop_two h).trans (congrArg _ (congrArg _ (drop_nil h'))))).trans (getL_b_end a b)
theorem get_c_zero (h : k + 1 + 1 < s.size) (a : ¬ ((s[k]).toNat : Int) < 128) (b : ¬ ((s[k + 1]).toNat : Int) < 128) (c : ((s[k + 1 + 1]).toNat : Int) = 0) : getL (s.data.toList.drop k) = none :=
  (congrArg getL (drop_three h)).trans (getL_c_zero _ a b c)
theorem get_c (h : k + 1 + 1 < s.size) (a : ¬ ((s[k]).toNat : Int) < 128) (b : ¬ ((s[k + 1]).toNat : Int) < 128) (c : ((s[k + 1 + 1]).toNat : Int) < 128) (c' : ¬ ((s[k + 1 + 1]).toNat : Int) = 0) :
    getL (s.data.toList.drop k) = some (((s[k]).toNat : Int) % 128 + ((s[k + 1]).toNat : Int) % 128 * 128 + ((s[k + 1 + 1]).toNat : Int) * 16384, 3) :=
  (congrArg getL (drop_three h)).trans (getL_c _ a b c c')
theorem get_c_no (h : k + 1 + 1 < s.size) (a : ¬ ((s[k]).toNat : Int) < 128) (b : ¬ ((s[k + 1]).toNat : Int) < 128) (c : ¬ ((s[k + 1 + 1]).toNat : Int) < 128) : getL (s.data.toList.drop k) = none :=
  (congrArg getL (drop_three h)).trans (getL_c_no _ a b c)
end

end Go.Proofs.YtoepcplbpochpaaDoor

/-
  What lodgeref.Put answers, at every number.
-/
namespace Go.Proofs.YtoepcplbpochpaaDoor
open Go.RowKit

theorem Tryd.info5 : (Tryd.prog.info? 5).map (fun i => (i.zero, i.size, i.bytes)) = some (some (.int .u8 0), 1, 1) := by kernel_rfl

theorem own_ge {w : World} {base : Nat} {e : TypeId} {size n : Nat} {v : Value} {xs : List Value} (h : w.ownsRow base e size v n xs) : ∀ k, v.ownBlock = some k → base ≤ k := by
  intro k hk
  rcases h.2 with ⟨rfl, _⟩ | ⟨g, cap, cur, rfl, hg, _⟩
  · simp [Value.ownBlock] at hk
  · simp [Value.ownBlock] at hk; omega

/-- The string of a row of bytes that the call owns. -/
theorem run_own_string {w : World} {base n : Nat} {v : Value} {xs : List Int} (h : w.ownsRow base 5 1 v n (xs.map (Value.int .u8))) (hn : xs.length = n) :
    (convert 190 9 v).run Tryd.prog w = .ok (.string (strOfNums xs)) w := by
  rcases h.2 with ⟨rfl, h0⟩ | ⟨g, cap, cur, rfl, hg, hh⟩
  · have : xs = [] := List.length_eq_zero_iff.1 (by omega)
    subst this
    exact run_convert_bytes_nil w 190 5 Tryd.underlying190 Tryd.underlying5 0 0 9 Tryd.underlying9
  · refine run_convert_bytes_arg w 190 5 Tryd.underlying190 Tryd.underlying5 g 0 n cap xs hn (fun i hi => ?_) 9 Tryd.underlying9
    have := World.ownsRow.cellAt h i (by omega)
    rw [Nat.zero_add, this]
    simp [List.getD, List.getElem?_eq_getElem (show i < xs.length by omega)]

/-- What Put answers: the string and the error. -/
def putR (n : Int) : Value := if 0 ≤ n ∧ n ≤ 2097151 then .tuple #[.string (numS n), .int .i64 0] else .tuple #[.string ByteArray.empty, .int .i64 13]
theorem putR_yes {n : Int} (h0 : 0 ≤ n) (h1 : n ≤ 2097151) : putR n = .tuple #[.string (numS n), .int .i64 0] := by unfold putR; rw [if_pos ⟨h0, h1⟩]
theorem putR_no {n : Int} (h : ¬ (0 ≤ n ∧ n ≤ 2097151)) : putR n = .tuple #[.string ByteArray.empty, .int .i64 13] := by unfold putR; rw [if_neg h]

/-- The string of a slice of bytes that was just laid out. -/
theorem conv_new (w : World) (xs : List Int) : (convert 190 9 (.slice (some ⟨w.heap.size, 0, none⟩) xs.length xs.length)).run Tryd.prog (w.alloc (.cells (xs.map (Value.int .u8)).toArray 5)) =
    .ok (.string (strOfNums xs)) (w.alloc (.cells (xs.map (Value.int .u8)).toArray 5)) := by
  refine run_convert_bytes_arg _ 190 5 Tryd.underlying190 Tryd.underlying5 w.heap.size 0 xs.length xs.length xs rfl (fun i hi => ?_) 9 Tryd.underlying9
  rw [Nat.zero_add, World.cell?_alloc_at (hn := rfl)]
  simp [List.getD, List.getElem?_eq_getElem hi]
theorem conv1 (w : World) (a : Int) : (convert 190 9 (.slice (some ⟨w.heap.size, 0, none⟩) 1 1)).run Tryd.prog (w.alloc (.cells #[.int .u8 a] 5)) = .ok (.string (strOfNums [a])) (w.alloc (.cells #[.int .u8 a] 5)) := conv_new w [a]
theorem conv2 (w : World) (a b : Int) : (convert 190 9 (.slice (some ⟨w.heap.size, 0, none⟩) 2 2)).run Tryd.prog (w.alloc (.cells #[.int .u8 a, .int .u8 b] 5)) = .ok (.string (strOfNums [a, b])) (w.alloc (.cells #[.int .u8 a, .int .u8 b] 5)) := conv_new w [a, b]
theorem conv3 (w : World) (a b c : Int) : (convert 190 9 (.slice (some ⟨w.heap.size, 0, none⟩) 3 3)).run Tryd.prog (w.alloc (.cells #[.int .u8 a, .int .u8 b, .int .u8 c] 5)) = .ok (.string (strOfNums [a, b, c])) (w.alloc (.cells #[.int .u8 a, .int .u8 b, .int .u8 c] 5)) := conv_new w [a, b, c]

set_option maxHeartbeats 400000 in
theorem refput_any (n : Int) (w : World) :
    Calls Tryd.prog 117 #[.int .i64 n] w fun e w' => e = .returned (putR n) ∧ Below w.heap.size w w' := by
  by_cases h0 : 0 ≤ n
  · by_cases h1 : n ≤ 2097151
    · rw [putR_yes h0 h1]
      by_cases h2 : n < 128
      · have hc := conv1 w
        have e1 : numS n = strOfNums [n % 128] := by unfold numS; rw [enc_one h2]; congr 2; omega
        rw [e1]
        clear e1
        go_enter Tryd.func117, Tryd.ntmps117
        go_wp2
        go_ret2
        exact ⟨rfl, (Below.refl _ _).alloc (Nat.le_refl _) _⟩
      by_cases h3 : n < 16384
      · have hc := conv2 w
        have e1 : numS n = strOfNums [n % 128 + 128, n / 128 % 128] := by unfold numS; rw [enc_two h2 h3]; congr 3; omega
        rw [e1]
        clear e1
        go_enter Tryd.func117, Tryd.ntmps117
        go_wp2
        go_ret2
        exact ⟨rfl, (Below.refl _ _).alloc (Nat.le_refl _) _⟩
      · have hc := conv3 w
        have e1 : numS n = strOfNums [n % 128 + 128, n / 128 % 128 + 128, n / 16384] := by unfold numS; rw [enc_three h3]
        rw [e1]
        clear e1
        go_enter Tryd.func117, Tryd.ntmps117
        go_wp2
        go_ret2
        exact ⟨rfl, (Below.refl _ _).alloc (Nat.le_refl _) _⟩
    · rw [putR_no (by omega)]
      go_enter Tryd.func117, Tryd.ntmps117
      go_wp2
      go_ret2
      exact ⟨rfl, Below.refl _ _⟩
  · rw [putR_no (by omega)]
    go_enter Tryd.func117, Tryd.ntmps117
    go_wp2
    go_ret2
    exact ⟨rfl, Below.refl _ _⟩
end Go.Proofs.YtoepcplbpochpaaDoor

/-
  Ranges and tables: what they are, plainly; what leb.isRange, leb.mayFollow, lodgeref.one and lodgeref.pair answer.
-/
namespace Go.Proofs.YtoepcplbpochpaaDoor
open Go.RowKit

/-- A range. -/
structure Rg where
  v : Int
  f : Int
  t : Int
  k : Int
  a : Int

/-- A range as a value. -/
def Rg.cells (r : Rg) : List Value := [.int .i64 r.v, .int .i64 r.f, .int .i64 r.t, .int .i64 r.k, .int .i64 r.a]

def isRg (r : Rg) : Bool := decide (0 ≤ r.v ∧ r.v < 4 ∧ 0 ≤ r.f ∧ r.f < r.t ∧ r.t ≤ 164 ∧ 0 ≤ r.k ∧ r.k ≤ 2 ∧ 0 ≤ r.a ∧ r.a ≤ 65535)
def follows (x y : Rg) : Bool := if x.v ≠ y.v then decide (x.v < y.v) else if x.t ≠ y.f then decide (x.t < y.f) else decide (x.k ≠ y.k ∨ x.a ≠ y.a)

/-- May y stand somewhere behind x (near: right behind it)? -/
def behind (x y : Rg) (near : Bool) : Bool := if x.v ≠ y.v then decide (x.v < y.v) else if y.f < x.t then false else (!near || decide (x.t < y.f) || decide (x.k ≠ y.k) || decide (x.a ≠ y.a))

set_option maxHeartbeats 1000000 in
theorem isRange_any (r : Rg) (w : World) :
    Calls Tryd.prog 114 #[.agg #[.int .i64 r.v, .int .i64 r.f, .int .i64 r.t, .int .i64 r.k, .int .i64 r.a]] w fun e w' => e = .returned (.bool (isRg r)) ∧ Below w.heap.size w w' := by
  obtain ⟨v, f, t, k, a⟩ := r

  go_enter Tryd.func114, Tryd.ntmps114
  go_wp2
  all_goals (go_ret; refine ⟨ret_bool ?_, ((Below.refl _ _).alloc (Nat.le_refl _) _)⟩; rw [Bool.eq_iff_iff]; simp [isRg]; try omega)

set_option maxHeartbeats 1000000 in
theorem one_any (r : Rg) (w : World) :
    Calls Tryd.prog 133 #[.agg #[.int .i64 r.v, .int .i64 r.f, .int .i64 r.t, .int .i64 r.k, .int .i64 r.a]] w fun e w' => e = .returned (.bool (isRg r)) ∧ Below w.heap.size w w' := by
  obtain ⟨v, f, t, k, a⟩ := r

  go_enter Tryd.func133, Tryd.ntmps133
  go_wp2
  all_goals (go_ret; refine ⟨ret_bool ?_, ((Below.refl _ _).alloc (Nat.le_refl _) _)⟩; rw [Bool.eq_iff_iff]; simp [isRg]; try omega)

set_option maxHeartbeats 1000000 in
theorem mayFollow_any (r r2 : Rg) (w : World) :
    Calls Tryd.prog 115 #[.agg #[.int .i64 r.v, .int .i64 r.f, .int .i64 r.t, .int .i64 r.k, .int .i64 r.a], .agg #[.int .i64 r2.v, .int .i64 r2.f, .int .i64 r2.t, .int .i64 r2.k, .int .i64 r2.a]] w fun e w' => e = .returned (.bool (follows r r2)) ∧ Below w.heap.size w w' := by
  obtain ⟨v, f, t, k, a⟩ := r
  obtain ⟨v2, f2, t2, k2, a2⟩ := r2
  have S : Hid (follows ⟨v, f, t, k, a⟩ ⟨v2, f2, t2, k2, a2⟩ = decide (v < v2 ∨ v = v2 ∧ (t < f2 ∨ t = f2 ∧ (k ≠ k2 ∨ a ≠ a2)))) := by
    unfold Hid follows; rw [Bool.eq_iff_iff]; simp only [ne_eq]; split
    · simp; omega
    · split <;> simp <;> omega
  go_enter Tryd.func115, Tryd.ntmps115
  go_wp2
  all_goals (go_ret; refine ⟨ret_bool ?_, (((Below.refl _ _).alloc (Nat.le_refl _) _).alloc (by simp) _)⟩; rw [unhide S]; try simp only [bne_iff_ne, ne_eq, bne_eq_false_iff_eq] at *; rw [Bool.eq_iff_iff]; simp; try omega)

set_option maxHeartbeats 1000000 in
theorem pair_any (r r2 : Rg) (near : Bool) (w : World) :
    Calls Tryd.prog 134 #[.agg #[.int .i64 r.v, .int .i64 r.f, .int .i64 r.t, .int .i64 r.k, .int .i64 r.a], .agg #[.int .i64 r2.v, .int .i64 r2.f, .int .i64 r2.t, .int .i64 r2.k, .int .i64 r2.a], .bool near] w fun e w' => e = .returned (.bool (behind r r2 near)) ∧ Below w.heap.size w w' := by
  obtain ⟨v, f, t, k, a⟩ := r
  obtain ⟨v2, f2, t2, k2, a2⟩ := r2
  have S : Hid (behind ⟨v, f, t, k, a⟩ ⟨v2, f2, t2, k2, a2⟩ near = decide (v < v2 ∨ v = v2 ∧ (t ≤ f2 ∧ (near = false ∨ t < f2 ∨ k ≠ k2 ∨ a ≠ a2)))) := by
    unfold Hid behind; rw [Bool.eq_iff_iff]; cases near <;> simp only [ne_eq] <;> split
    · simp; omega
    · split <;> simp <;> omega
    · simp; omega
    · split <;> simp <;> omega
  cases near
  all_goals
    go_enter Tryd.func134, Tryd.ntmps134
    go_wp2
    all_goals (go_ret; refine ⟨ret_bool ?_, (((Below.refl _ _).alloc (Nat.le_refl _) _).alloc (by simp) _)⟩; rw [unhide S]; try simp only [bne_iff_ne, ne_eq, bne_eq_false_iff_eq] at *; rw [Bool.eq_iff_iff]; simp; try omega)

end Go.Proofs.YtoepcplbpochpaaDoor

/-
  What leb.isTable answers, of every list of ranges.
-/
namespace Go.Proofs.YtoepcplbpochpaaDoor
open Go.RowKit

/-- The i-th range of a list. -/
def rg (R : List Rg) (i : Nat) : Rg := R.getD i ⟨0, 0, 0, 0, 0⟩
/-- The five cells of a range lie at an address. -/
def AtR5 (w : World) (b o : Nat) (r : Rg) : Prop :=
  w.cell? ⟨b, o, none⟩ = some (.int .i64 r.v) ∧ w.cell? ⟨b, o + 1, none⟩ = some (.int .i64 r.f) ∧ w.cell? ⟨b, o + 2, none⟩ = some (.int .i64 r.t) ∧ w.cell? ⟨b, o + 3, none⟩ = some (.int .i64 r.k) ∧ w.cell? ⟨b, o + 4, none⟩ = some (.int .i64 r.a)
/-- A list of ranges lies at an address. -/
def Lie (w : World) (b off : Nat) (R : List Rg) : Prop := ∀ i, i < R.length → AtR5 w b (off + i * 5) (rg R i)

theorem AtR5.below {w w' : World} {B b o : Nat} {r : Rg} (h : AtR5 w b o r) (hb : Below B w w') (hB : b < B) : AtR5 w' b o r :=
  ⟨(hb.cell hB).trans h.1, (hb.cell hB).trans h.2.1, (hb.cell hB).trans h.2.2.1, (hb.cell hB).trans h.2.2.2.1, (hb.cell hB).trans h.2.2.2.2⟩
theorem Lie.below {w w' : World} {B b off : Nat} {R : List Rg} (h : Lie w b off R) (hb : Below B w w') (hB : b < B) : Lie w' b off R :=
  fun i hi => (h i hi).below hb hB

/-- Is the list a table as far as its first k ranges? -/
def tabTo (R : List Rg) (k : Nat) : Bool := (List.range k).all fun i => isRg (rg R i) && (decide (i = 0) || follows (rg R (i - 1)) (rg R i))
def isTab (R : List Rg) : Bool := decide (R.length ≤ 200) && tabTo R R.length

theorem tabTo_succ (R : List Rg) (k : Nat) : tabTo R (k + 1) = (tabTo R k && (isRg (rg R k) && (decide (k = 0) || follows (rg R (k - 1)) (rg R k)))) := by
  unfold tabTo; rw [List.range_succ, List.all_append]; simp
theorem tabTo_mono (R : List Rg) {k n : Nat} (h : k ≤ n) (hn : tabTo R n = true) : tabTo R k = true := by
  unfold tabTo at *; rw [List.all_eq_true] at *; intro i hi; rw [List.mem_range] at hi; exact hn i (by rw [List.mem_range]; omega)

set_option maxRecDepth 100000 in
set_option maxHeartbeats 1000000 in
theorem isTable_some (R : List Rg) (b off cap : Nat) (w : World) (hL : Lie w b off R) (hb : b < w.heap.size) (hlen : R.length ≤ 9223372036854775807) :
    Calls Tryd.prog 90 #[.slice (some ⟨b, off, none⟩) R.length cap] w fun e w' => e = .returned (.bool (isTab R)) ∧ Below w.heap.size w w' := by
  by_cases h200 : R.length ≤ 200
  case neg =>
    have e : isTab R = false := by simp [isTab, h200]
    rw [e]
    go_enter Tryd.func90, Tryd.ntmps90
    go_wp2
    go_ret
    exact ⟨rfl, Below.refl _ _⟩
  have e : isTab R = tabTo R R.length := by simp [isTab, h200]
  rw [e]
  clear e
  go_enter Tryd.func90, Tryd.ntmps90
  go_wp2
  go_loopw [3] (fun i wr => ∃ k : Nat, k ≤ R.length ∧ i = .int .i64 k ∧ tabTo R k = true ∧ Below w.heap.size w wr) (fun i _ => R.length - (intOf i).toNat)
  case atStart => exact ⟨0, Nat.zero_le _, rfl, rfl, Below.refl _ _⟩
  case round =>
    obtain ⟨k, hk, rfl, htab, hbel⟩ := hrel
    have HT := hide htab
    clear htab
    by_cases hlt : k < R.length
    · have C1 := hide (fun w => isRange_any (rg R k) w)
      have hc := hide ((hL k hlt).below hbel hb)
      cases hr : isRg (rg R k)
      · have hf : tabTo R R.length = false := by
          cases h : tabTo R R.length
          · rfl
          · have := tabTo_mono R (show k + 1 ≤ R.length by omega) h
            rw [tabTo_succ, hr] at this; simp at this
        have HF := hide hf
        rw [hr] at C1
        obtain ⟨c0, c1, c2, c3, c4⟩ := unhide hc
        clear hr hf hc
        go_wp2_with fail
        refine (unhide C1 _).mono ?_
        rintro e w1 ⟨rfl, hb1⟩
        go_wp2
        go_ret
        exact ⟨ret_bool (unhide HF).symm, hbel.trans (hb1.mono hbel.size)⟩
      · rw [hr] at C1
        have HR := hide hr
        clear hr
        obtain ⟨c0, c1, c2, c3, c4⟩ := unhide hc
        clear hc
        by_cases h0 : 0 < k
        case neg =>
          have hn : tabTo R (k + 1) = true := by rw [tabTo_succ, unhide HT, unhide HR]; simp; omega
          have HN := hide hn
          have hg : decide ((0 : Int) < (k : Int)) = false := by simp; omega
          clear hn
          go_wp2_with fail
          refine (unhide C1 _).mono ?_
          rintro e w1 ⟨rfl, hb1⟩
          go_wp2_with fail
          go_quiet (fail)
          go_wp2
          go_roundw
          case rel => exact ⟨k + 1, by omega, by go_num, unhide HN, below_drewN (hbel.trans (hb1.mono hbel.size)) _⟩
          case measure => simp [intOf]; omega
        have C2 := hide (fun w => mayFollow_any (rg R (k - 1)) (rg R k) w)
        cases hf : follows (rg R (k - 1)) (rg R k)
        · rw [hf] at C2
          have hn : tabTo R R.length = false := by
            cases h : tabTo R R.length
            · rfl
            · have := tabTo_mono R (show k + 1 ≤ R.length by omega) h
              rw [tabTo_succ, hf] at this; simp at this; omega
          have HN := hide hn
          clear hn hf
          go_wp2_with fail
          refine (unhide C1 _).mono ?_
          rintro e w1 ⟨rfl, hb1⟩
          have hb2 := hbel.trans (hb1.mono hbel.size)
          obtain ⟨d0, d1, d2, d3, d4⟩ := (hL k hlt).below hb2 hb
          obtain ⟨p0, p1, p2, p3, p4⟩ := (hL (k - 1) (by omega)).below hb2 hb
          go_wp2_with fail
          have i1 : (0 : Int) ≤ (k : Int) - 1 := by omega
          have i2 : (k : Int) - 1 < (R.length : Int) := by omega
          have i3 : (k : Int) < (R.length : Int) := by omega
          have i4 : decide ((0 : Int) < (k : Int)) = true := by simp; omega
          have i6 : (1 : Int) ≤ (k : Int) := by omega
          have i7 : 1 ≤ k := by omega
          have i5 : IntKind.i64.wrap ((k : Int) - 1) = (k : Int) - 1 := by rw [IntKind.wrap_i64]; omega
          go_region_held3 (fun w' => (w'.cell? ⟨b, off + k * 5, none⟩ = some (.int .i64 (rg R k).v) ∧ w'.cell? ⟨b, off + k * 5 + 1, none⟩ = some (.int .i64 (rg R k).f) ∧ w'.cell? ⟨b, off + k * 5 + 2, none⟩ = some (.int .i64 (rg R k).t) ∧ w'.cell? ⟨b, off + k * 5 + 3, none⟩ = some (.int .i64 (rg R k).k) ∧ w'.cell? ⟨b, off + k * 5 + 4, none⟩ = some (.int .i64 (rg R k).a)) ∧
            w'.cell? ⟨b, off + (k - 1) * 5, none⟩ = some (.int .i64 (rg R (k - 1)).v) ∧ w'.cell? ⟨b, off + (k - 1) * 5 + 1, none⟩ = some (.int .i64 (rg R (k - 1)).f) ∧ w'.cell? ⟨b, off + (k - 1) * 5 + 2, none⟩ = some (.int .i64 (rg R (k - 1)).t) ∧ w'.cell? ⟨b, off + (k - 1) * 5 + 3, none⟩ = some (.int .i64 (rg R (k - 1)).k) ∧ w'.cell? ⟨b, off + (k - 1) * 5 + 4, none⟩ = some (.int .i64 (rg R (k - 1)).a)) (simp [*])
            (first | (go_at_call 115; refine (unhide C2 _).mono ?_; rintro e w2 ⟨rfl, hb3⟩; have hb4 := (hb2.drew).trans (hb3.mono (by simpa using hb2.size)); obtain ⟨q0, q1, q2, q3, q4⟩ := (hL k hlt).below hb4 hb; obtain ⟨s0, s1, s2, s3, s4⟩ := (hL (k - 1) (by omega)).below hb4 hb))
          go_wp2
          go_ret
          exact ⟨ret_bool (unhide HN).symm, by assumption⟩
        · rw [hf] at C2
          have hn : tabTo R (k + 1) = true := by rw [tabTo_succ, unhide HT, unhide HR, hf]; simp
          have HN := hide hn
          clear hn hf
          go_wp2_with fail
          refine (unhide C1 _).mono ?_
          rintro e w1 ⟨rfl, hb1⟩
          have hb2 := hbel.trans (hb1.mono hbel.size)
          obtain ⟨d0, d1, d2, d3, d4⟩ := (hL k hlt).below hb2 hb
          obtain ⟨p0, p1, p2, p3, p4⟩ := (hL (k - 1) (by omega)).below hb2 hb
          go_wp2_with fail
          have i1 : (0 : Int) ≤ (k : Int) - 1 := by omega
          have i2 : (k : Int) - 1 < (R.length : Int) := by omega
          have i3 : (k : Int) < (R.length : Int) := by omega
          have i4 : decide ((0 : Int) < (k : Int)) = true := by simp; omega
          have i6 : (1 : Int) ≤ (k : Int) := by omega
          have i7 : 1 ≤ k := by omega
          have i5 : IntKind.i64.wrap ((k : Int) - 1) = (k : Int) - 1 := by rw [IntKind.wrap_i64]; omega
          go_region_held3 (fun w' => (w'.cell? ⟨b, off + k * 5, none⟩ = some (.int .i64 (rg R k).v) ∧ w'.cell? ⟨b, off + k * 5 + 1, none⟩ = some (.int .i64 (rg R k).f) ∧ w'.cell? ⟨b, off + k * 5 + 2, none⟩ = some (.int .i64 (rg R k).t) ∧ w'.cell? ⟨b, off + k * 5 + 3, none⟩ = some (.int .i64 (rg R k).k) ∧ w'.cell? ⟨b, off + k * 5 + 4, none⟩ = some (.int .i64 (rg R k).a)) ∧
            w'.cell? ⟨b, off + (k - 1) * 5, none⟩ = some (.int .i64 (rg R (k - 1)).v) ∧ w'.cell? ⟨b, off + (k - 1) * 5 + 1, none⟩ = some (.int .i64 (rg R (k - 1)).f) ∧ w'.cell? ⟨b, off + (k - 1) * 5 + 2, none⟩ = some (.int .i64 (rg R (k - 1)).t) ∧ w'.cell? ⟨b, off + (k - 1) * 5 + 3, none⟩ = some (.int .i64 (rg R (k - 1)).k) ∧ w'.cell? ⟨b, off + (k - 1) * 5 + 4, none⟩ = some (.int .i64 (rg R (k - 1)).a)) (simp [*])
            (first | (go_at_call 115; refine (unhide C2 _).mono ?_; rintro e w2 ⟨rfl, hb3⟩; have hb4 := (hb2.drew).trans (hb3.mono (by simpa using hb2.size)); obtain ⟨q0, q1, q2, q3, q4⟩ := (hL k hlt).below hb4 hb; obtain ⟨s0, s1, s2, s3, s4⟩ := (hL (k - 1) (by omega)).below hb4 hb))
          go_wp2
          go_roundw
          case rel => exact ⟨k + 1, by omega, by go_num, unhide HN, by assumption⟩
          case measure => simp [intOf]; omega
    · have : k = R.length := by omega
      subst this
      go_wp2
      go_ret
      exact ⟨ret_bool (unhide HT).symm, hbel⟩

theorem isTable_nil (ao : Option Addr) (cap : Nat) (w : World) :
    Calls Tryd.prog 90 #[.slice ao 0 cap] w fun e w' => e = .returned (.bool (isTab [])) ∧ Below w.heap.size w w' := by
  go_enter Tryd.func90, Tryd.ntmps90
  go_wp2
  refine wp_loop_rounds 1 ?_; rw [rounds_succ]
  go_wp2
  go_ret
  exact ⟨rfl, Below.refl _ _⟩

/-- A slice that holds a list of ranges: nothing is asked of its address where the list is empty. -/
def Held (w : World) (ao : Option Addr) (R : List Rg) : Prop := R = [] ∨ ∃ b off, ao = some ⟨b, off, none⟩ ∧ b < w.heap.size ∧ Lie w b off R

theorem Held.below {w w' : World} {ao : Option Addr} {R : List Rg} (h : Held w ao R) (hb : Below w.heap.size w w') : Held w' ao R := by
  rcases h with h | ⟨b, off, h, hlt, hl⟩
  · exact .inl h
  · exact .inr ⟨b, off, h, Nat.lt_of_lt_of_le hlt hb.size, hl.below hb hlt⟩

theorem isTable_any (R : List Rg) (ao : Option Addr) (cap : Nat) (w : World) (hL : Held w ao R) (hlen : R.length ≤ 9223372036854775807) :
    Calls Tryd.prog 90 #[.slice ao R.length cap] w fun e w' => e = .returned (.bool (isTab R)) ∧ Below w.heap.size w w' := by
  rcases hL with rfl | ⟨b, off, rfl, hb, hL⟩
  · exact isTable_nil ao cap w
  · exact isTable_some R b off cap w hL hb hlen
end Go.Proofs.YtoepcplbpochpaaDoor

/-
  What lodgeref.IsTable answers, of every list of ranges: just what leb.isTable answers, though it looks at every pair.
-/
namespace Go.Proofs.YtoepcplbpochpaaDoor
open Go.RowKit

/-! ### The plain mathematics: neighbours decide of all pairs -/
def before (x y : Rg) : Prop := x.v < y.v ∨ x.v = y.v ∧ x.t ≤ y.f

theorem before_of_follows {x y : Rg} (h : follows x y = true) : before x y := by
  unfold follows at h; unfold before
  by_cases a : x.v = y.v
  · by_cases b : x.t = y.f
    · omega
    · simp [a, b] at h; omega
  · simp [a] at h; omega
theorem before_trans {x y z : Rg} (h : before x y) (h' : before y z) (hy : y.f < y.t) : before x z := by
  unfold before at *; omega
theorem behind_true (x y : Rg) : behind x y true = follows x y := by
  unfold behind follows
  by_cases a : x.v = y.v
  · by_cases b : x.t = y.f
    · simp [a, b]
    · by_cases c : y.f < x.t
      · simp [a, b, c]; omega
      · have : x.t < y.f := by omega
        simp [a, b, c, this]
  · simp [a]
theorem behind_false {x y : Rg} (h : before x y) : behind x y false = true := by
  unfold behind; unfold before at h
  by_cases a : x.v = y.v
  · simp [a]; omega
  · simp [a]; omega

theorem isRg_lt {r : Rg} (h : isRg r = true) : r.f < r.t := by unfold isRg at h; rw [decide_eq_true_eq] at h; omega

theorem tab_at {R : List Rg} {n k : Nat} (h : tabTo R n = true) (hk : k < n) : isRg (rg R k) = true ∧ (k = 0 ∨ follows (rg R (k - 1)) (rg R k) = true) := by
  unfold tabTo at h; rw [List.all_eq_true] at h
  have := h k (by rw [List.mem_range]; exact hk)
  simpa using this

theorem tab_before {R : List Rg} {n : Nat} (h : tabTo R n = true) : ∀ k, k < n → ∀ j, j < k → before (rg R j) (rg R k) := by
  intro k
  induction k with
  | zero => intro _ j hj; omega
  | succ k ih =>
    intro hk j hj
    have f := before_of_follows ((tab_at h hk).2.resolve_left (by omega))
    rw [Nat.add_sub_cancel] at f
    by_cases e : j = k
    · subst e; exact f
    · exact before_trans (ih (by omega) j (by omega)) f (isRg_lt (tab_at h (by omega : k < n)).1)

/-- What a true table says of each pair. -/
theorem tab_behind {R : List Rg} {n k j : Nat} (h : tabTo R n = true) (hk : k < n) (hj : j < k) : behind (rg R j) (rg R k) (decide ((j : Int) = (k : Int) - 1)) = true := by
  by_cases e : (j : Int) = (k : Int) - 1
  · rw [decide_eq_true e, behind_true]
    have := (tab_at h hk).2.resolve_left (by omega)
    rw [show k - 1 = j by omega] at this; exact this
  · rw [decide_eq_false e]; exact behind_false (tab_before h k hk j hj)

/-- Pairs behind one another. -/
def pairsTo (R : List Rg) (k j : Nat) : Prop := ∀ i, i < j → behind (rg R i) (rg R k) (decide ((i : Int) = (k : Int) - 1)) = true

theorem tab_next {R : List Rg} {k : Nat} (h : tabTo R k = true) (hr : isRg (rg R k) = true) (hp : pairsTo R k k) : tabTo R (k + 1) = true := by
  rw [tabTo_succ, h, hr]
  by_cases h0 : k = 0
  · simp [h0]
  · have := hp (k - 1) (by omega)
    rw [decide_eq_true (by omega), behind_true] at this
    simp [this]

set_option maxRecDepth 100000 in
set_option maxHeartbeats 1000000 in
theorem refTable_some (R : List Rg) (b off cap : Nat) (w : World) (hL : Lie w b off R) (hb : b < w.heap.size) (hlen : R.length ≤ 9223372036854775807) :
    Calls Tryd.prog 118 #[.slice (some ⟨b, off, none⟩) R.length cap] w fun e w' => e = .returned (.bool (isTab R)) ∧ Below w.heap.size w w' := by
  by_cases h200 : R.length ≤ 200
  case neg =>
    have e : isTab R = false := by simp [isTab, h200]
    rw [e]
    go_enter Tryd.func118, Tryd.ntmps118
    go_wp2
    go_ret
    exact ⟨rfl, Below.refl _ _⟩
  have e : isTab R = tabTo R R.length := by simp [isTab, h200]
  rw [e]
  clear e
  go_enter Tryd.func118, Tryd.ntmps118
  go_wp2
  go_loopw [3, 4, 5] (fun i _ _ wr => ∃ k : Nat, k ≤ R.length ∧ i = .int .i64 k ∧ tabTo R k = true ∧ Below w.heap.size w wr) (fun i _ _ _ => R.length - (intOf i).toNat)
  case atStart => exact ⟨0, Nat.zero_le _, rfl, rfl, Below.refl _ _⟩
  case round =>
    obtain ⟨k, hk, rfl, htab, hbel⟩ := hrel
    have HT := hide htab
    clear htab
    by_cases hlt : k < R.length
    case neg =>
      have : k = R.length := by omega
      subst this
      go_wp2
      go_ret
      exact ⟨ret_bool (unhide HT).symm, hbel⟩
    have C1 := hide (fun w => one_any (rg R k) w)
    have hc := hide ((hL k hlt).below hbel hb)
    cases hr : isRg (rg R k)
    · have hf : tabTo R R.length = false := by
        cases h : tabTo R R.length
        · rfl
        · have := tabTo_mono R (show k + 1 ≤ R.length by omega) h
          rw [tabTo_succ, hr] at this; simp at this
      have HF := hide hf
      rw [hr] at C1
      obtain ⟨c0, c1, c2, c3, c4⟩ := unhide hc
      clear hr hf hc
      go_wp2_with fail
      refine (unhide C1 _).mono ?_
      rintro e w1 ⟨rfl, hb1⟩
      go_wp2
      go_ret
      exact ⟨ret_bool (unhide HF).symm, hbel.trans (hb1.mono hbel.size)⟩
    · rw [hr] at C1
      have HR := hide hr
      obtain ⟨c0, c1, c2, c3, c4⟩ := unhide hc
      clear hr hc
      go_wp2_with fail
      refine (unhide C1 _).mono ?_
      rintro e w1 ⟨rfl, hb1⟩
      have hb2 := hbel.trans (hb1.mono hbel.size)
      clear c0 c1 c2 c3 c4 hb1 hbel
      go_wp2
      go_loopw [4, 5] (fun _ i wr => ∃ j : Nat, j ≤ k ∧ i = .int .i64 j ∧ pairsTo R k j ∧ Below w.heap.size w wr) (fun _ i _ => k - (intOf i).toNat)
      case atStart => exact ⟨0, Nat.zero_le _, rfl, fun i hi => absurd hi (by omega), hb2⟩
      case round =>
        obtain ⟨j, hj, rfl, hp, hbel⟩ := hrel
        have HP := hide hp
        clear hp
        by_cases hjk : j < k
        case neg =>
          have hjk' : j = k := by omega
          have hp : pairsTo R k k := by have := unhide HP; rw [hjk'] at this; exact this
          have hn : tabTo R (k + 1) = true := tab_next (unhide HT) (unhide HR) hp
          clear hp hjk'
          have HN := hide hn
          clear hn
          go_wp2
          go_roundw
          case rel => exact ⟨k + 1, by omega, by go_num, unhide HN, hbel⟩
          case measure => simp [intOf]; omega
        have C2 := hide (fun w => pair_any (rg R j) (rg R k) ((j : Int) == (k : Int) - 1) w)
        have i1 : (j : Int) < (R.length : Int) := by omega
        have i3 : (k : Int) < (R.length : Int) := by omega
        have i5 : IntKind.i64.wrap ((k : Int) - 1) = (k : Int) - 1 := by rw [IntKind.wrap_i64]; omega
        obtain ⟨d0, d1, d2, d3, d4⟩ := (hL k hlt).below hbel hb
        obtain ⟨p0, p1, p2, p3, p4⟩ := (hL j (by omega)).below hbel hb
        cases hf : behind (rg R j) (rg R k) ((j : Int) == (k : Int) - 1)
        · rw [hf] at C2
          have hn : tabTo R R.length = false := by
            cases h : tabTo R R.length
            · rfl
            · have := tab_behind h hlt hjk
              exact absurd (hf.symm.trans this) (by decide)
          have HN := hide hn
          clear hn hf
          go_wp2_with fail
          go_region_held3 (fun w' => (w'.cell? ⟨b, off + k * 5, none⟩ = some (.int .i64 (rg R k).v) ∧ w'.cell? ⟨b, off + k * 5 + 1, none⟩ = some (.int .i64 (rg R k).f) ∧ w'.cell? ⟨b, off + k * 5 + 2, none⟩ = some (.int .i64 (rg R k).t) ∧ w'.cell? ⟨b, off + k * 5 + 3, none⟩ = some (.int .i64 (rg R k).k) ∧ w'.cell? ⟨b, off + k * 5 + 4, none⟩ = some (.int .i64 (rg R k).a)) ∧
            w'.cell? ⟨b, off + j * 5, none⟩ = some (.int .i64 (rg R j).v) ∧ w'.cell? ⟨b, off + j * 5 + 1, none⟩ = some (.int .i64 (rg R j).f) ∧ w'.cell? ⟨b, off + j * 5 + 2, none⟩ = some (.int .i64 (rg R j).t) ∧ w'.cell? ⟨b, off + j * 5 + 3, none⟩ = some (.int .i64 (rg R j).k) ∧ w'.cell? ⟨b, off + j * 5 + 4, none⟩ = some (.int .i64 (rg R j).a)) (simp [*])
            (first | (go_at_call 134; refine (unhide C2 _).mono ?_; rintro e w2 ⟨rfl, hb3⟩; have hb4 := (hbel.drew).trans (hb3.mono (by simpa using hbel.size)); obtain ⟨q0, q1, q2, q3, q4⟩ := (hL k hlt).below hb4 hb; obtain ⟨s0, s1, s2, s3, s4⟩ := (hL j (by omega)).below hb4 hb))
          go_wp2
          go_ret
          exact ⟨ret_bool (unhide HN).symm, by assumption⟩
        · rw [hf] at C2
          have hp : pairsTo R k (j + 1) := fun i hi => by
            by_cases e : i = j
            · subst e; exact hf
            · exact unhide HP i (by omega)
          have HN := hide hp
          clear hp hf
          go_wp2_with fail
          go_region_held3 (fun w' => (w'.cell? ⟨b, off + k * 5, none⟩ = some (.int .i64 (rg R k).v) ∧ w'.cell? ⟨b, off + k * 5 + 1, none⟩ = some (.int .i64 (rg R k).f) ∧ w'.cell? ⟨b, off + k * 5 + 2, none⟩ = some (.int .i64 (rg R k).t) ∧ w'.cell? ⟨b, off + k * 5 + 3, none⟩ = some (.int .i64 (rg R k).k) ∧ w'.cell? ⟨b, off + k * 5 + 4, none⟩ = some (.int .i64 (rg R k).a)) ∧
            w'.cell? ⟨b, off + j * 5, none⟩ = some (.int .i64 (rg R j).v) ∧ w'.cell? ⟨b, off + j * 5 + 1, none⟩ = some (.int .i64 (rg R j).f) ∧ w'.cell? ⟨b, off + j * 5 + 2, none⟩ = some (.int .i64 (rg R j).t) ∧ w'.cell? ⟨b, off + j * 5 + 3, none⟩ = some (.int .i64 (rg R j).k) ∧ w'.cell? ⟨b, off + j * 5 + 4, none⟩ = some (.int .i64 (rg R j).a)) (simp [*])
            (first | (go_at_call 134; refine (unhide C2 _).mono ?_; rintro e w2 ⟨rfl, hb3⟩; have hb4 := (hbel.drew).trans (hb3.mono (by simpa using hbel.size)); obtain ⟨q0, q1, q2, q3, q4⟩ := (hL k hlt).below hb4 hb; obtain ⟨s0, s1, s2, s3, s4⟩ := (hL j (by omega)).below hb4 hb))
          go_wp2
          go_roundw
          case rel => exact ⟨j + 1, by omega, by go_num, unhide HN, by assumption⟩
          case measure => simp [intOf]; omega

theorem refTable_nil (ao : Option Addr) (cap : Nat) (w : World) :
    Calls Tryd.prog 118 #[.slice ao 0 cap] w fun e w' => e = .returned (.bool (isTab [])) ∧ Below w.heap.size w w' := by
  go_enter Tryd.func118, Tryd.ntmps118
  go_wp2
  refine wp_loop_rounds 1 ?_; rw [rounds_succ]
  go_wp2
  go_ret
  exact ⟨rfl, Below.refl _ _⟩

theorem refTable_any (R : List Rg) (ao : Option Addr) (cap : Nat) (w : World) (hL : Held w ao R) (hlen : R.length ≤ 9223372036854775807) :
    Calls Tryd.prog 118 #[.slice ao R.length cap] w fun e w' => e = .returned (.bool (isTab R)) ∧ Below w.heap.size w w' := by
  rcases hL with rfl | ⟨b, off, rfl, hb, hL⟩
  · exact refTable_nil ao cap w
  · exact refTable_some R b off cap w hL hb hlen
end Go.Proofs.YtoepcplbpochpaaDoor

/-
  Plain mathematics: when the bytes of a number are a piece of a string. No Go here.
-/
namespace Go.Proofs.YtoepcplbpochpaaDoor

theorem numS_toList (n : Int) : (numS n).toList = (encI n).map fun m => UInt8.ofNat m.toNat := by
  rw [ByteArray.toList_eq]; rfl

theorem byte_eq {x : Int} {a : UInt8} (h0 : 0 ≤ x) (h1 : x < 256) : UInt8.ofNat x.toNat = a ↔ x = (a.toNat : Int) := by
  constructor
  · intro h
    have := congrArg UInt8.toNat h
    rw [UInt8.toNat_ofNat', Nat.mod_eq_of_lt (by omega)] at this
    omega
  · intro h
    apply UInt8.toNat_inj.1
    rw [UInt8.toNat_ofNat', Nat.mod_eq_of_lt (by omega)]
    omega

theorem byte_lt (a : UInt8) : (a.toNat : Int) < 256 := by have := a.toNat_lt; omega

theorem test1_iff (a : UInt8) (m : Int) (hm : m = (a.toNat : Int) % 128) : (encI m).map (fun m => UInt8.ofNat m.toNat) = [a] ↔ (a.toNat : Int) < 128 := by
  have := byte_lt a
  rw [enc_one (by omega), List.map_cons, List.map_nil, List.cons.injEq, byte_eq (by omega) (by omega)]
  simp only [and_true]
  omega

theorem test2_iff (a b : UInt8) (m : Int) (hm : m = (a.toNat : Int) % 128 + 128 * ((b.toNat : Int) % 128)) :
    (encI m).map (fun m => UInt8.ofNat m.toNat) = [a, b] ↔ 128 ≤ (a.toNat : Int) ∧ (b.toNat : Int) < 128 ∧ (b.toNat : Int) ≠ 0 := by
  have := byte_lt a
  have := byte_lt b
  by_cases h : m < 128
  · rw [enc_one h]; simp only [List.map_cons, List.map_nil, List.cons.injEq, reduceCtorEq, and_false, false_iff]; omega
  · rw [enc_two h (by omega), List.map_cons, List.map_cons, List.map_nil, List.cons.injEq, List.cons.injEq, byte_eq (by omega) (by omega), byte_eq (by omega) (by omega)]
    simp only [and_true]
    omega

theorem test3_iff (a b c : UInt8) (m : Int) (hm : m = (a.toNat : Int) % 128 + 128 * ((b.toNat : Int) % 128) + 128 * (128 * ((c.toNat : Int) % 128))) :
    (encI m).map (fun m => UInt8.ofNat m.toNat) = [a, b, c] ↔ 128 ≤ (a.toNat : Int) ∧ 128 ≤ (b.toNat : Int) ∧ (c.toNat : Int) < 128 ∧ (c.toNat : Int) ≠ 0 := by
  have := byte_lt a
  have := byte_lt b
  have := byte_lt c
  by_cases h : m < 128
  · rw [enc_one h]; simp only [List.map_cons, List.map_nil, List.cons.injEq, reduceCtorEq, and_false, false_iff]; omega
  by_cases h' : m < 16384
  · rw [enc_two h h']; simp only [List.map_cons, List.map_nil, List.cons.injEq, reduceCtorEq, and_false, false_iff]; omega
  · rw [enc_three h', List.map_cons, List.map_cons, List.map_cons, List.map_nil, List.cons.injEq, List.cons.injEq, List.cons.injEq, byte_eq (by omega) (by omega), byte_eq (by omega) (by omega), byte_eq (by omega) (by omega)]
    simp only [and_true]
    omega

section
variable {s : ByteArray} {k : Nat}
theorem ext1 (h : k < s.size) : (s.extract k (k + 1)).toList = [s[k]] := by
  rw [Lib.extract_toList, drop_cons h, show k + 1 - k = 1 by omega]; rfl
theorem ext2 (h : k + 1 < s.size) : (s.extract k (k + 1 + 1)).toList = [s[k], s[k + 1]] := by
  rw [Lib.extract_toList, drop_two h, show k + 1 + 1 - k = 2 by omega]; rfl
theorem ext3 (h : k + 1 + 1 < s.size) : (s.extract k (k + 1 + 1 + 1)).toList = [s[k], s[k + 1], s[k + 1 + 1]] := by
  rw [Lib.extract_toList, drop_three h, show k + 1 + 1 + 1 - k = 3 by omega]; rfl

theorem beq_of {x y : List UInt8} {p : Prop} (h : x = y ↔ p) (hp : p) : (x == y) = true := by simpa using h.2 hp
theorem beq_not {x y : List UInt8} {p : Prop} (h : x = y ↔ p) (hp : ¬ p) : (x == y) = false := by simpa using fun e => hp (h.1 e)

theorem t1_yes (h : k < s.size) (a : ((s[k]).toNat : Int) < 128) : ((numS (((s[k]).toNat : Int) % 128)).toList == (s.extract k (k + 1)).toList) = true := by
  rw [numS_toList, ext1 h]; exact beq_of (test1_iff _ _ rfl) a
theorem t1_no (h : k < s.size) (a : ¬ ((s[k]).toNat : Int) < 128) : ((numS (((s[k]).toNat : Int) % 128)).toList == (s.extract k (k + 1)).toList) = false := by
  rw [numS_toList, ext1 h]; exact beq_not (test1_iff _ _ rfl) a
theorem t2_yes (h : k + 1 < s.size) (p : 128 ≤ ((s[k]).toNat : Int) ∧ ((s[k + 1]).toNat : Int) < 128 ∧ ((s[k + 1]).toNat : Int) ≠ 0) :
    ((numS (((s[k]).toNat : Int) % 128 + 128 * (((s[k + 1]).toNat : Int) % 128))).toList == (s.extract k (k + 1 + 1)).toList) = true := by
  rw [numS_toList, ext2 h]; exact beq_of (test2_iff _ _ _ rfl) p
theorem t2_no (h : k + 1 < s.size) (p : ¬ (128 ≤ ((s[k]).toNat : Int) ∧ ((s[k + 1]).toNat : Int) < 128 ∧ ((s[k + 1]).toNat : Int) ≠ 0)) :
    ((numS (((s[k]).toNat : Int) % 128 + 128 * (((s[k + 1]).toNat : Int) % 128))).toList == (s.extract k (k + 1 + 1)).toList) = false := by
  rw [numS_toList, ext2 h]; exact beq_not (test2_iff _ _ _ rfl) p
theorem t3_yes (h : k + 1 + 1 < s.size) (p : 128 ≤ ((s[k]).toNat : Int) ∧ 128 ≤ ((s[k + 1]).toNat : Int) ∧ ((s[k + 1 + 1]).toNat : Int) < 128 ∧ ((s[k + 1 + 1]).toNat : Int) ≠ 0) :
    ((numS (((s[k]).toNat : Int) % 128 + 128 * (((s[k + 1]).toNat : Int) % 128) + 128 * (128 * (((s[k + 1 + 1]).toNat : Int) % 128)))).toList == (s.extract k (k + 1 + 1 + 1)).toList) = true := by
  rw [numS_toList, ext3 h]; exact beq_of (test3_iff _ _ _ _ rfl) p
theorem t3_no (h : k + 1 + 1 < s.size) (p : ¬ (128 ≤ ((s[k]).toNat : Int) ∧ 128 ≤ ((s[k + 1]).toNat : Int) ∧ ((s[k + 1 + 1]).toNat : Int) < 128 ∧ ((s[k + 1 + 1]).toNat : Int) ≠ 0)) :
    ((numS (((s[k]).toNat : Int) % 128 + 128 * (((s[k + 1]).toNat : Int) % 128) + 128 * (128 * (((s[k + 1 + 1]).toNat : Int) % 128)))).toList == (s.extract k (k + 1 + 1 + 1)).toList) = false := by
  rw [numS_toList, ext3 h]; exact beq_not (test3_iff _ _ _ _ rfl) p
end
end Go.Proofs.YtoepcplbpochpaaDoor

/-
  Plain mathematics: a number's bytes are read as that number, whatever stands behind them; cut short, or drawn out by a byte of nought, they are none. No Go here.
-/
namespace Go.Proofs.YtoepcplbpochpaaDoor

/-- A number's bytes. -/
def encB (n : Int) : List UInt8 := (encI n).map fun m => UInt8.ofNat m.toNat

theorem numS_data (n : Int) : (numS n).data.toList = encB n := rfl
theorem numS_size (n : Int) : (numS n).size = (encI n).length := strOfNums_size _

theorem toNat_of {x : Int} (h0 : 0 ≤ x) (h1 : x < 256) : ((UInt8.ofNat x.toNat).toNat : Int) = x := by
  rw [UInt8.toNat_ofNat', Nat.mod_eq_of_lt (by omega)]; omega

theorem encB_one {n : Int} (h : n < 128) : encB n = [UInt8.ofNat n.toNat] := by unfold encB; rw [enc_one h]; rfl
theorem encB_two {n : Int} (h : ¬ n < 128) (h' : n < 16384) : encB n = [UInt8.ofNat (n % 128 + 128).toNat, UInt8.ofNat (n / 128).toNat] := by unfold encB; rw [enc_two h h']; rfl
theorem encB_three {n : Int} (h' : ¬ n < 16384) : encB n = [UInt8.ofNat (n % 128 + 128).toNat, UInt8.ofNat (n / 128 % 128 + 128).toNat, UInt8.ofNat (n / 16384).toNat] := by unfold encB; rw [enc_three h']; rfl

theorem get_enc {n : Int} (h0 : 0 ≤ n) (h1 : n ≤ 2097151) (r : List UInt8) : getL (encB n ++ r) = some (n, (encI n).length) := by
  by_cases a : n < 128
  · rw [encB_one a, enc_one a]
    have e := toNat_of h0 (by omega : n < 256)
    rw [List.cons_append, getL_a _ (by omega), e]; rfl
  by_cases b : n < 16384
  · rw [encB_two a b, enc_two a b]
    have e1 := toNat_of (x := n % 128 + 128) (by omega) (by omega)
    have e2 := toNat_of (x := n / 128) (by omega) (by omega)
    rw [List.cons_append, List.cons_append, getL_b _ (by omega) (by omega) (by omega), e1, e2]
    simp only [List.length_cons, List.length_nil, Option.some.injEq, Prod.mk.injEq, and_true]
    omega
  · rw [encB_three b, enc_three b]
    have e1 := toNat_of (x := n % 128 + 128) (by omega) (by omega)
    have e2 := toNat_of (x := n / 128 % 128 + 128) (by omega) (by omega)
    have e3 := toNat_of (x := n / 16384) (by omega) (by omega)
    rw [List.cons_append, List.cons_append, List.cons_append, getL_c _ (by omega) (by omega) (by omega) (by omega), e1, e2, e3]
    simp only [List.length_cons, List.length_nil, Option.some.injEq, Prod.mk.injEq, and_true]
    omega

theorem enc_len (n : Int) : (encI n).length = if n < 128 then 1 else if n < 16384 then 2 else 3 := by
  unfold encI; split
  · rfl
  · split <;> rfl

/-- Bytes that all bear the mark 'more follows' are no number. -/
theorem get_open : ∀ l : List UInt8, (∀ a ∈ l, ¬ (a.toNat : Int) < 128) → getL l = none
  | [], _ => rfl
  | [a], h => getL_a_end (h a (by simp))
  | [a, b], h => getL_b_end (h a (by simp)) (h b (by simp))
  | a :: b :: c :: r, h => getL_c_no r (h a (by simp)) (h b (by simp)) (h c (by simp))

/-- The bytes that lead a nought must bear the mark: then it is no number. -/
theorem get_drawn : ∀ l : List UInt8, l ≠ [] → (∀ a ∈ l, ¬ (a.toNat : Int) < 128) → getL (l ++ [0]) = none
  | [], h, _ => absurd rfl h
  | [a], _, h => getL_b_zero [] (h a (by simp)) rfl
  | [a, b], _, h => getL_c_zero [] (h a (by simp)) (h b (by simp)) rfl
  | a :: b :: c :: r, _, h => getL_c_no (r ++ [0]) (h a (by simp)) (h b (by simp)) (h c (by simp))

/-- All bytes but the last. -/
theorem enc_front (n : Int) : ∀ a ∈ (encB n).dropLast, ¬ (a.toNat : Int) < 128 := by
  by_cases a : n < 128
  · rw [encB_one a]; simp
  by_cases b : n < 16384
  · rw [encB_two a b]
    have e1 := toNat_of (x := n % 128 + 128) (by omega) (by omega)
    intro x hx; simp only [List.dropLast_cons_cons, List.dropLast_singleton, List.mem_singleton] at hx; subst hx; omega
  · rw [encB_three b]
    have e1 := toNat_of (x := n % 128 + 128) (by omega) (by omega)
    have e2 := toNat_of (x := n / 128 % 128 + 128) (by omega) (by omega)
    intro x hx; simp only [List.dropLast_cons_cons, List.dropLast_singleton, List.mem_cons, List.not_mem_nil, or_false] at hx
    rcases hx with rfl | rfl <;> omega

/-- The last byte. -/
theorem enc_last {n : Int} (h0 : 0 ≤ n) (h1 : n ≤ 2097151) : ∃ x : UInt8, (encB n).dropLast ++ [x] = encB n ∧ (x.toNat : Int) < 128 := by
  by_cases a : n < 128
  · rw [encB_one a]; exact ⟨_, rfl, by rw [toNat_of (by omega) (by omega)]; omega⟩
  by_cases b : n < 16384
  · rw [encB_two a b]; exact ⟨_, rfl, by rw [toNat_of (by omega) (by omega)]; omega⟩
  · rw [encB_three b]; exact ⟨_, rfl, by rw [toNat_of (by omega) (by omega)]; omega⟩

end Go.Proofs.YtoepcplbpochpaaDoor
