/-
  Plain mathematics of numbers as bytes: what a number's bytes are, and what number stands at the head of a list of bytes. No Go here.
-/
import Derived.Laws.BytesArg
import Derived.Test.YtoepcplbpochpaaDoorRows
import Derived.Test.YtoepcplbpochpaaDoorUnit1
import Derived.WalkKit
import Derived.WalkSpells
import Derived.WalkLawsBesides

namespace Go.Proofs.YtoepcplbpochpaaDoor

/-- The bytes of a number, lowest seven bits first. -/
def encI (n : Int) : List Int :=
  if n < 128 then [n] else if n < 16384 then [n % 128 + 128, n / 128] else [n % 128 + 128, n / 128 % 128 + 128, n / 16384]

theorem enc_one {n : Int} (h : n < 128) : encI n = [n] := by unfold encI; rw [if_pos h]
theorem enc_two {n : Int} (h : ¬ n < 128) (h' : n < 16384) : encI n = [n % 128 + 128, n / 128] := by unfold encI; rw [if_neg h, if_pos h']
theorem enc_three {n : Int} (h' : ¬ n < 16384) : encI n = [n % 128 + 128, n / 128 % 128 + 128, n / 16384] := by unfold encI; rw [if_neg (by omega), if_neg h']

theorem enc_step {n : Int} (h : 128 ≤ n) (h' : n ≤ 2097151) : encI n = (n % 128 + 128) :: encI (n / 128) := by
  by_cases a : n < 16384
  · rw [enc_two (by omega) a, enc_one (by omega)]
  · rw [enc_three a, enc_two (by omega) (by omega)]
    congr 3
    omega

/-- The string of a number. -/
def numS (n : Int) : ByteArray := strOfNums (encI n)

/-- The third byte of a number. -/
def get3 (u : Int) : List UInt8 → Option (Int × Nat)
  | [] => none
  | c :: _ => if (c.toNat : Int) < 128 then (if (c.toNat : Int) = 0 then none else some (u + (c.toNat : Int) * 16384, 3)) else none
/-- The second byte of a number. -/
def get2 (u : Int) : List UInt8 → Option (Int × Nat)
  | [] => none
  | b :: r => if (b.toNat : Int) < 128 then (if (b.toNat : Int) = 0 then none else some (u + (b.toNat : Int) * 128, 2)) else get3 (u + (b.toNat : Int) % 128 * 128) r
/-- The number that stands at the head of a list of bytes, and how many bytes it takes. -/
def getL : List UInt8 → Option (Int × Nat)
  | [] => none
  | a :: r => if (a.toNat : Int) < 128 then some ((a.toNat : Int), 1) else get2 ((a.toNat : Int) % 128) r

theorem drop_nil {s : ByteArray} {k : Nat} (h : s.size ≤ k) : s.data.toList.drop k = [] := List.drop_of_length_le (by simpa using h)
theorem drop_cons {s : ByteArray} {k : Nat} (h : k < s.size) : s.data.toList.drop k = s[k] :: s.data.toList.drop (k + 1) := by
  rw [List.drop_eq_getElem_cons (by simpa using h)]; rfl

/-- What Get answers at a place within int's nought and more. -/
def getR (s : ByteArray) (i : Int) : Value :=
  if i < 0 then .tuple #[.int .i64 0, .int .i64 0, .int .i64 14] else
  match getL (s.data.toList.drop i.toNat) with
  | none => .tuple #[.int .i64 0, .int .i64 0, .int .i64 14]
  | some (v, k) => .tuple #[.int .i64 v, .int .i64 (i + k), .int .i64 0]

theorem getR_neg {s : ByteArray} {i : Int} (h : i < 0) : getR s i = .tuple #[.int .i64 0, .int .i64 0, .int .i64 14] := by unfold getR; rw [if_pos h]
theorem getR_none {s : ByteArray} {k : Nat} (h : getL (s.data.toList.drop k) = none) : getR s k = .tuple #[.int .i64 0, .int .i64 0, .int .i64 14] := by
  unfold getR; rw [if_neg (by omega), Int.toNat_natCast, h]
theorem getR_some {s : ByteArray} {k : Nat} {v : Int} {j : Nat} (h : getL (s.data.toList.drop k) = some (v, j)) : getR s k = .tuple #[.int .i64 v, .int .i64 (k + j), .int .i64 0] := by
  unfold getR; rw [if_neg (by omega), Int.toNat_natCast, h]

theorem getL_cons (a : UInt8) (r : List UInt8) : getL (a :: r) = if (a.toNat : Int) < 128 then some ((a.toNat : Int), 1) else get2 ((a.toNat : Int) % 128) r := rfl
theorem get2_cons (u : Int) (b : UInt8) (r : List UInt8) : get2 u (b :: r) = if (b.toNat : Int) < 128 then (if (b.toNat : Int) = 0 then none else some (u + (b.toNat : Int) * 128, 2)) else get3 (u + (b.toNat : Int) % 128 * 128) r := rfl
theorem get3_cons (u : Int) (c : UInt8) (r : List UInt8) : get3 u (c :: r) = if (c.toNat : Int) < 128 then (if (c.toNat : Int) = 0 then none else some (u + (c.toNat : Int) * 16384, 3)) else none := rfl
theorem get2_nil (u : Int) : get2 u [] = none := rfl
theorem get3_nil (u : Int) : get3 u [] = none := rfl
theorem getL_nil : getL [] = none := rfl
theorem getL_a {a : UInt8} (r : List UInt8) (h : (a.toNat : Int) < 128) : getL (a :: r) = some ((a.toNat : Int), 1) := by rw [getL_cons, if_pos h]
theorem getL_a_end {a : UInt8} (h : ¬ (a.toNat : Int) < 128) : getL [a] = none := by rw [getL_cons, if_neg h, get2_nil]
theorem getL_b_zero {a b : UInt8} (r : List UInt8) (h : ¬ (a.toNat : Int) < 128) (h' : (b.toNat : Int) = 0) : getL (a :: b :: r) = none := by
  rw [getL_cons, if_neg h, get2_cons, if_pos (by omega), if_pos h']
theorem getL_b {a b : UInt8} (r : List UInt8) (h : ¬ (a.toNat : Int) < 128) (h1 : (b.toNat : Int) < 128) (h' : ¬ (b.toNat : Int) = 0) : getL (a :: b :: r) = some ((a.toNat : Int) % 128 + (b.toNat : Int) * 128, 2) := by
  rw [getL_cons, if_neg h, get2_cons, if_pos h1, if_neg h']
theorem getL_b_end {a b : UInt8} (h : ¬ (a.toNat : Int) < 128) (h1 : ¬ (b.toNat : Int) < 128) : getL [a, b] = none := by
  rw [getL_cons, if_neg h, get2_cons, if_neg h1, get3_nil]
theorem getL_c_zero {a b c : UInt8} (r : List UInt8) (h : ¬ (a.toNat : Int) < 128) (h1 : ¬ (b.toNat : Int) < 128) (h' : (c.toNat : Int) = 0) : getL (a :: b :: c :: r) = none := by
  rw [getL_cons, if_neg h, get2_cons, if_neg h1, get3_cons, if_pos (by omega), if_pos h']
theorem getL_c {a b c : UInt8} (r : List UInt8) (h : ¬ (a.toNat : Int) < 128) (h1 : ¬ (b.toNat : Int) < 128) (h2 : (c.toNat : Int) < 128) (h' : ¬ (c.toNat : Int) = 0) :
    getL (a :: b :: c :: r) = some ((a.toNat : Int) % 128 + (b.toNat : Int) % 128 * 128 + (c.toNat : Int) * 16384, 3) := by
  rw [getL_cons, if_neg h, get2_cons, if_neg h1, get3_cons, if_pos h2, if_neg h']
theorem getL_c_no {a b c : UInt8} (r : List UInt8) (h : ¬ (a.toNat : Int) < 128) (h1 : ¬ (b.toNat : Int) < 128) (h2 : ¬ (c.toNat : Int) < 128) : getL (a :: b :: c :: r) = none := by
  rw [getL_cons, if_neg h, get2_cons, if_neg h1, get3_cons, if_neg h2]

section
variable {s : ByteArray} {k : Nat}
theorem drop_two (h : k + 1 < s.size) : s.data.toList.drop k = s[k] :: s[k + 1] :: s.data.toList.drop (k + 1 + 1) := by
  rw [drop_cons (by omega), drop_cons h]
theorem drop_three (h : k + 1 + 1 < s.size) : s.data.toList.drop k = s[k] :: s[k + 1] :: s[k + 1 + 1] :: s.data.toList.drop (k + 1 + 1 + 1) := by
  rw [drop_two (by omega), drop_cons h]
theorem get_out (h : s.size ≤ k) : getL (s.data.toList.drop k) = none := (congrArg getL (drop_nil h)).trans rfl
theorem get_a (h : k < s.size) (a : ((s[k]).toNat : Int) < 128) : getL (s.data.toList.drop k) = some (((s[k]).toNat : Int), 1) :=
  (congrArg getL (drop_cons h)).trans (getL_a _ a)
theorem get_a_end (h : k < s.size) (a : ¬ ((s[k]).toNat : Int) < 128) (h' : s.size ≤ k + 1) : getL (s.data.toList.drop k) = none :=
  (congrArg getL ((drop_cons h).trans (congrArg _ (drop_nil h')))).trans (getL_a_end a)
theorem get_b_zero (h : k + 1 < s.size) (a : ¬ ((s[k]).toNat : Int) < 128) (b : ((s[k + 1]).toNat : Int) = 0) : getL (s.data.toList.drop k) = none :=
  (congrArg getL (drop_two h)).trans (getL_b_zero _ a b)
theorem get_b (h : k + 1 < s.size) (a : ¬ ((s[k]).toNat : Int) < 128) (b : ((s[k + 1]).toNat : Int) < 128) (b' : ¬ ((s[k + 1]).toNat : Int) = 0) :
    getL (s.data.toList.drop k) = some (((s[k]).toNat : Int) % 128 + ((s[k + 1]).toNat : Int) * 128, 2) :=
  (congrArg getL (drop_two h)).trans (getL_b _ a b b')
theorem get_b_end (h : k + 1 < s.size) (a : ¬ ((s[k]).toNat : Int) < 128) (b : ¬ ((s[k + 1]).toNat : Int) < 128) (h' : s.size ≤ k + 1 + 1) : getL (s.data.toList.drop k) = none :=
  (congrArg getL ((drop_two h).trans (congrArg _ (congrArg _ (drop_nil h'))))).trans (getL_b_end a b)
theorem get_c_zero (h : k + 1 + 1 < s.size) (a : ¬ ((s[k]).toNat : Int) < 128) (b : ¬ ((s[k + 1]).toNat : Int) < 128) (c : ((s[k + 1 + 1]).toNat : Int) = 0) : getL (s.data.toList.drop k) = none :=
  (congrArg getL (drop_three h)).trans (getL_c_zero _ a b c)
theorem get_c (h : k + 1 + 1 < s.size) (a : ¬ ((s[k]).toNat : Int) < 128) (b : ¬ ((s[k + 1]).toNat : Int) < 128) (c : ((s[k + 1 + 1]).toNat : Int) < 128) (c' : ¬ ((s[k + 1 + 1]).toNat : Int) = 0) :
    getL (s.data.toList.drop k) = some (((s[k]).toNat : Int) % 128 + ((s[k + 1]).toNat : Int) % 128 * 128 + ((s[k + 1 + 1]).toNat : Int) * 16384, 3) :=
  (congrArg getL (drop_three h)).trans (getL_c _ a b c c')
theorem get_c_no (h : k + 1 + 1 < s.size) (a : ¬ ((s[k]).toNat : Int) < 128) (b : ¬ ((s[k + 1]).toNat : Int) < 128) (c : ¬ ((s[k + 1 + 1]).toNat : Int) < 128) : getL (s.data.toList.drop k) = none :=
  (congrArg getL (drop_three h)).trans (getL_c_no _ a b c)
end

end Go.Proofs.YtoepcplbpochpaaDoor

/-
  What lodgeref.Put answers, at every number.
-/
namespace Go.Proofs.YtoepcplbpochpaaDoor
open Go.RowKit

theorem Tryd.info5 : (Tryd.prog.info? 5).map (fun i => (i.zero, i.size, i.bytes)) = some (some (.int .u8 0), 1, 1) := by kernel_rfl

theorem own_ge {w : World} {base : Nat} {e : TypeId} {size n : Nat} {v : Value} {xs : List Value} (h : w.ownsRow base e size v n xs) : ∀ k, v.ownBlock = some k → base ≤ k := by
  intro k hk
  rcases h.2 with ⟨rfl, _⟩ | ⟨g, cap, cur, rfl, hg, _⟩
  · simp [Value.ownBlock] at hk
  · simp [Value.ownBlock] at hk; omega

/-- The string of a row of bytes that the call owns. -/
theorem run_own_string {w : World} {base n : Nat} {v : Value} {xs : List Int} (h : w.ownsRow base 5 1 v n (xs.map (Value.int .u8))) (hn : xs.length = n) :
    (convert 190 9 v).run Tryd.prog w = .ok (.string (strOfNums xs)) w := by
  rcases h.2 with ⟨rfl, h0⟩ | ⟨g, cap, cur, rfl, hg, hh⟩
  · have : xs = [] := List.length_eq_zero_iff.1 (by omega)
    subst this
    exact run_convert_bytes_nil w 190 5 Tryd.underlying190 Tryd.underlying5 0 0 9 Tryd.underlying9
  · refine run_convert_bytes_arg w 190 5 Tryd.underlying190 Tryd.underlying5 g 0 n cap xs hn (fun i hi => ?_) 9 Tryd.underlying9
    have := World.ownsRow.cellAt h i (by omega)
    rw [Nat.zero_add, this]
    simp [List.getD, List.getElem?_eq_getElem (show i < xs.length by omega)]

/-- What Put answers: the string and the error. -/
def putR (n : Int) : Value := if 0 ≤ n ∧ n ≤ 2097151 then .tuple #[.string (numS n), .int .i64 0] else .tuple #[.string ByteArray.empty, .int .i64 13]
theorem putR_yes {n : Int} (h0 : 0 ≤ n) (h1 : n ≤ 2097151) : putR n = .tuple #[.string (numS n), .int .i64 0] := by unfold putR; rw [if_pos ⟨h0, h1⟩]
theorem putR_no {n : Int} (h : ¬ (0 ≤ n ∧ n ≤ 2097151)) : putR n = .tuple #[.string ByteArray.empty, .int .i64 13] := by unfold putR; rw [if_neg h]

/-- The string of a slice of bytes that was just laid out. -/
theorem conv_new (w : World) (xs : List Int) : (convert 190 9 (.slice (some ⟨w.heap.size, 0, none⟩) xs.length xs.length)).run Tryd.prog (w.alloc (.cells (xs.map (Value.int .u8)).toArray 5)) =
    .ok (.string (strOfNums xs)) (w.alloc (.cells (xs.map (Value.int .u8)).toArray 5)) := by
  refine run_convert_bytes_arg _ 190 5 Tryd.underlying190 Tryd.underlying5 w.heap.size 0 xs.length xs.length xs rfl (fun i hi => ?_) 9 Tryd.underlying9
  rw [Nat.zero_add, World.cell?_alloc_at (hn := rfl)]
  simp [List.getD, List.getElem?_eq_getElem hi]
theorem conv1 (w : World) (a : Int) : (convert 190 9 (.slice (some ⟨w.heap.size, 0, none⟩) 1 1)).run Tryd.prog (w.alloc (.cells #[.int .u8 a] 5)) = .ok (.string (strOfNums [a])) (w.alloc (.cells #[.int .u8 a] 5)) := conv_new w [a]
theorem conv2 (w : World) (a b : Int) : (convert 190 9 (.slice (some ⟨w.heap.size, 0, none⟩) 2 2)).run Tryd.prog (w.alloc (.cells #[.int .u8 a, .int .u8 b] 5)) = .ok (.string (strOfNums [a, b])) (w.alloc (.cells #[.int .u8 a, .int .u8 b] 5)) := conv_new w [a, b]
theorem conv3 (w : World) (a b c : Int) : (convert 190 9 (.slice (some ⟨w.heap.size, 0, none⟩) 3 3)).run Tryd.prog (w.alloc (.cells #[.int .u8 a, .int .u8 b, .int .u8 c] 5)) = .ok (.string (strOfNums [a, b, c])) (w.alloc (.cells #[.int .u8 a, .int .u8 b, .int .u8 c] 5)) := conv_new w [a, b, c]

set_option maxHeartbeats 400000 in
theorem refput_any (n : Int) (w : World) :
    Calls Tryd.prog 117 #[.int .i64 n] w fun e w' => e = .returned (putR n) ∧ Below w.heap.size w w' := by
  by_cases h0 : 0 ≤ n
  · by_cases h1 : n ≤ 2097151
    · rw [putR_yes h0 h1]
      by_cases h2 : n < 128
      · have hc := conv1 w
        have e1 : numS n = strOfNums [n % 128] := by unfold numS; rw [enc_one h2]; congr 2; omega
        rw [e1]
        clear e1
        go_enter Tryd.func117, Tryd.ntmps117
        go_wp2
        go_ret2
        exact ⟨rfl, (Below.refl _ _).alloc (Nat.le_refl _) _⟩
      by_cases h3 : n < 16384
      · have hc := conv2 w
        have e1 : numS n = strOfNums [n % 128 + 128, n / 128 % 128] := by unfold numS; rw [enc_two h2 h3]; congr 3; omega
        rw [e1]
        clear e1
        go_enter Tryd.func117, Tryd.ntmps117
        go_wp2
        go_ret2
        exact ⟨rfl, (Below.refl _ _).alloc (Nat.le_refl _) _⟩
      · have hc := conv3 w
        have e1 : numS n = strOfNums [n % 128 + 128, n / 128 % 128 + 128, n / 16384] := by unfold numS; rw [enc_three h3]
        rw [e1]
        clear e1
        go_enter Tryd.func117, Tryd.ntmps117
        go_wp2
        go_ret2
        exact ⟨rfl, (Below.refl _ _).alloc (Nat.le_refl _) _⟩
    · rw [putR_no (by omega)]
      go_enter Tryd.func117, Tryd.ntmps117
      go_wp2
      go_ret2
      exact ⟨rfl, Below.refl _ _⟩
  · rw [putR_no (by omega)]
    go_enter Tryd.func117, Tryd.ntmps117
    go_wp2
    go_ret2
    exact ⟨rfl, Below.refl _ _⟩
end Go.Proofs.YtoepcplbpochpaaDoor

/-
  Ranges and tables: what they are, plainly; what leb.isRange, leb.mayFollow, lodgeref.one and lodgeref.pair answer.
-/
namespace Go.Proofs.YtoepcplbpochpaaDoor
open Go.RowKit

/-- A range. -/
structure Rg where
  v : Int
  f : Int
  t : Int
  k : Int
  a : Int

/-- A range as a value. -/
def Rg.cells (r : Rg) : List Value := [.int .i64 r.v, .int .i64 r.f, .int .i64 r.t, .int .i64 r.k, .int .i64 r.a]

def isRg (r : Rg) : Bool := decide (0 ≤ r.v ∧ r.v < 4 ∧ 0 ≤ r.f ∧ r.f < r.t ∧ r.t ≤ 164 ∧ 0 ≤ r.k ∧ r.k ≤ 2 ∧ 0 ≤ r.a ∧ r.a ≤ 65535)
def follows (x y : Rg) : Bool := if x.v ≠ y.v then decide (x.v < y.v) else if x.t ≠ y.f then decide (x.t < y.f) else decide (x.k ≠ y.k ∨ x.a ≠ y.a)

/-- May y stand somewhere behind x (near: right behind it)? -/
def behind (x y : Rg) (near : Bool) : Bool := if x.v ≠ y.v then decide (x.v < y.v) else if y.f < x.t then false else (!near || decide (x.t < y.f) || decide (x.k ≠ y.k) || decide (x.a ≠ y.a))

set_option maxHeartbeats 1000000 in
theorem isRange_any (r : Rg) (w : World) :
    Calls Tryd.prog 114 #[.agg #[.int .i64 r.v, .int .i64 r.f, .int .i64 r.t, .int .i64 r.k, .int .i64 r.a]] w fun e w' => e = .returned (.bool (isRg r)) ∧ Below w.heap.size w w' := by
  obtain ⟨v, f, t, k, a⟩ := r

  go_enter Tryd.func114, Tryd.ntmps114
  go_wp2
  all_goals (go_ret; refine ⟨ret_bool ?_, ((Below.refl _ _).alloc (Nat.le_refl _) _)⟩; rw [Bool.eq_iff_iff]; simp [isRg]; try omega)

set_option maxHeartbeats 1000000 in
theorem one_any (r : Rg) (w : World) :
    Calls Tryd.prog 133 #[.agg #[.int .i64 r.v, .int .i64 r.f, .int .i64 r.t, .int .i64 r.k, .int .i64 r.a]] w fun e w' => e = .returned (.bool (isRg r)) ∧ Below w.heap.size w w' := by
  obtain ⟨v, f, t, k, a⟩ := r

  go_enter Tryd.func133, Tryd.ntmps133
  go_wp2
  all_goals (go_ret; refine ⟨ret_bool ?_, ((Below.refl _ _).alloc (Nat.le_refl _) _)⟩; rw [Bool.eq_iff_iff]; simp [isRg]; try omega)

set_option maxHeartbeats 1000000 in
theorem mayFollow_any (r r2 : Rg) (w : World) :
    Calls Tryd.prog 115 #[.agg #[.int .i64 r.v, .int .i64 r.f, .int .i64 r.t, .int .i64 r.k, .int .i64 r.a], .agg #[.int .i64 r2.v, .int .i64 r2.f, .int .i64 r2.t, .int .i64 r2.k, .int .i64 r2.a]] w fun e w' => e = .returned (.bool (follows r r2)) ∧ Below w.heap.size w w' := by
  obtain ⟨v, f, t, k, a⟩ := r
  obtain ⟨v2, f2, t2, k2, a2⟩ := r2
  have S : Hid (follows ⟨v, f, t, k, a⟩ ⟨v2, f2, t2, k2, a2⟩ = decide (v < v2 ∨ v = v2 ∧ (t < f2 ∨ t = f2 ∧ (k ≠ k2 ∨ a ≠ a2)))) := by
    unfold Hid follows; rw [Bool.eq_iff_iff]; simp only [ne_eq]; split
    · simp; omega
    · split <;> simp <;> omega
  go_enter Tryd.func115, Tryd.ntmps115
  go_wp2
  all_goals (go_ret; refine ⟨ret_bool ?_, (((Below.refl _ _).alloc (Nat.le_refl _) _).alloc (by simp) _)⟩; rw [unhide S]; try simp only [bne_iff_ne, ne_eq, bne_eq_false_iff_eq] at *; rw [Bool.eq_iff_iff]; simp; try omega)

set_option maxHeartbeats 1000000 in
theorem pair_any (r r2 : Rg) (near : Bool) (w : World) :
    Calls Tryd.prog 134 #[.agg #[.int .i64 r.v, .int .i64 r.f, .int .i64 r.t, .int .i64 r.k, .int .i64 r.a], .agg #[.int .i64 r2.v, .int .i64 r2.f, .int .i64 r2.t, .int .i64 r2.k, .int .i64 r2.a], .bool near] w fun e w' => e = .returned (.bool (behind r r2 near)) ∧ Below w.heap.size w w' := by
  obtain ⟨v, f, t, k, a⟩ := r
  obtain ⟨v2, f2, t2, k2, a2⟩ := r2
  have S : Hid (behind ⟨v, f, t, k, a⟩ ⟨v2, f2, t2, k2, a2⟩ near = decide (v < v2 ∨ v = v2 ∧ (t ≤ f2 ∧ (near = false ∨ t < f2 ∨ k ≠ k2 ∨ a ≠ a2)))) := by
    unfold Hid behind; rw [Bool.eq_iff_iff]; cases near <;> simp only [ne_eq] <;> split
    · simp; omega
    · split <;> simp <;> omega
    · simp; omega
    · split <;> simp <;> omega
  cases near
  all_goals
    go_enter Tryd.func134, Tryd.ntmps134
    go_wp2
    all_goals (go_ret; refine ⟨ret_bool ?_, (((Below.refl _ _).alloc (Nat.le_refl _) _).alloc (by simp) _)⟩; rw [unhide S]; try simp only [bne_iff_ne, ne_eq, bne_eq_false_iff_eq] at *; rw [Bool.eq_iff_iff]; simp; try omega)

end Go.Proofs.YtoepcplbpochpaaDoor
