/-
  What lodgeref.Put answers, at every number.
-/
import Derived.Test.YtoepcplbpochpaaDoorRows
import Derived.Test.YtoepcplbpochpaaDoorMath
import Derived.Test.YtoepcplbpochpaaDoorSmall
import Derived.WalkKit
import Derived.WalkSpells
import Derived.WalkLawsBesides
namespace Go.Proofs.YtoepcplbpochpaaDoor
open Go.RowKit

theorem Tryd.info5 : (Tryd.prog.info? 5).map (fun i => (i.zero, i.size, i.bytes)) = some (some (.int .u8 0), 1, 1) := by kernel_rfl

theorem own_ge {w : World} {base : Nat} {e : TypeId} {size n : Nat} {v : Value} {xs : List Value} (h : w.ownsRow base e size v n xs) : ∀ k, v.ownBlock = some k → base ≤ k := by
  intro k hk
  rcases h.2 with ⟨rfl, _⟩ | ⟨g, cap, cur, rfl, hg, _⟩
  · simp [Value.ownBlock] at hk
  · simp [Value.ownBlock] at hk; omega

/-- The string of a row of bytes that the call owns. -/
theorem run_own_string {w : World} {base n : Nat} {v : Value} {xs : List Int} (h : w.ownsRow base 5 1 v n (xs.map (Value.int .u8))) (hn : xs.length = n) :
    (convert 190 9 v).run Tryd.prog w = .ok (.string (strOfNums xs)) w := by
  rcases h.2 with ⟨rfl, h0⟩ | ⟨g, cap, cur, rfl, hg, hh⟩
  · have : xs = [] := List.length_eq_zero_iff.1 (by omega)
    subst this
    exact run_convert_bytes_nil w 190 5 Tryd.underlying190 Tryd.underlying5 0 0 9 Tryd.underlying9
  · refine run_convert_bytes_arg w 190 5 Tryd.underlying190 Tryd.underlying5 g 0 n cap xs hn (fun i hi => ?_) 9 Tryd.underlying9
    have := World.ownsRow.cellAt h i (by omega)
    rw [Nat.zero_add, this]
    simp [List.getD, List.getElem?_eq_getElem (show i < xs.length by omega)]

/-- What Put answers: the string and the error. -/
def putR (n : Int) : Value := if 0 ≤ n ∧ n ≤ 2097151 then .tuple #[.string (numS n), .int .i64 0] else .tuple #[.string ByteArray.empty, .int .i64 13]
theorem putR_yes {n : Int} (h0 : 0 ≤ n) (h1 : n ≤ 2097151) : putR n = .tuple #[.string (numS n), .int .i64 0] := by unfold putR; rw [if_pos ⟨h0, h1⟩]
theorem putR_no {n : Int} (h : ¬ (0 ≤ n ∧ n ≤ 2097151)) : putR n = .tuple #[.string ByteArray.empty, .int .i64 13] := by unfold putR; rw [if_neg h]

/-- The string of a slice of bytes that was just laid out. -/
theorem conv_new (w : World) (xs : List Int) : (convert 190 9 (.slice (some ⟨w.heap.size, 0, none⟩) xs.length xs.length)).run Tryd.prog (w.alloc (.cells (xs.map (Value.int .u8)).toArray 5)) =
    .ok (.string (strOfNums xs)) (w.alloc (.cells (xs.map (Value.int .u8)).toArray 5)) := by
  refine run_convert_bytes_arg _ 190 5 Tryd.underlying190 Tryd.underlying5 w.heap.size 0 xs.length xs.length xs rfl (fun i hi => ?_) 9 Tryd.underlying9
  rw [Nat.zero_add, World.cell?_alloc_at (hn := rfl)]
  simp [List.getD, List.getElem?_eq_getElem hi]
theorem conv1 (w : World) (a : Int) : (convert 190 9 (.slice (some ⟨w.heap.size, 0, none⟩) 1 1)).run Tryd.prog (w.alloc (.cells #[.int .u8 a] 5)) = .ok (.string (strOfNums [a])) (w.alloc (.cells #[.int .u8 a] 5)) := conv_new w [a]
theorem conv2 (w : World) (a b : Int) : (convert 190 9 (.slice (some ⟨w.heap.size, 0, none⟩) 2 2)).run Tryd.prog (w.alloc (.cells #[.int .u8 a, .int .u8 b] 5)) = .ok (.string (strOfNums [a, b])) (w.alloc (.cells #[.int .u8 a, .int .u8 b] 5)) := conv_new w [a, b]
theorem conv3 (w : World) (a b c : Int) : (convert 190 9 (.slice (some ⟨w.heap.size, 0, none⟩) 3 3)).run Tryd.prog (w.alloc (.cells #[.int .u8 a, .int .u8 b, .int .u8 c] 5)) = .ok (.string (strOfNums [a, b, c])) (w.alloc (.cells #[.int .u8 a, .int .u8 b, .int .u8 c] 5)) := conv_new w [a, b, c]

set_option maxHeartbeats 400000 in
theorem refput_any (n : Int) (w : World) :
    Calls Tryd.prog 117 #[.int .i64 n] w fun e w' => e = .returned (putR n) ∧ Below w.heap.size w w' := by
  by_cases h0 : 0 ≤ n
  · by_cases h1 : n ≤ 2097151
    · rw [putR_yes h0 h1]
      by_cases h2 : n < 128
      · have hc := conv1 w
        have e1 : numS n = strOfNums [n % 128] := by unfold numS; rw [enc_one h2]; congr 2; omega
        rw [e1]
        clear e1
        go_enter Tryd.func117, Tryd.ntmps117
        go_wp2
        go_ret2
        exact ⟨rfl, (Below.refl _ _).alloc (Nat.le_refl _) _⟩
      by_cases h3 : n < 16384
      · have hc := conv2 w
        have e1 : numS n = strOfNums [n % 128 + 128, n / 128 % 128] := by unfold numS; rw [enc_two h2 h3]; congr 3; omega
        rw [e1]
        clear e1
        go_enter Tryd.func117, Tryd.ntmps117
        go_wp2
        go_ret2
        exact ⟨rfl, (Below.refl _ _).alloc (Nat.le_refl _) _⟩
      · have hc := conv3 w
        have e1 : numS n = strOfNums [n % 128 + 128, n / 128 % 128 + 128, n / 16384] := by unfold numS; rw [enc_three h3]
        rw [e1]
        clear e1
        go_enter Tryd.func117, Tryd.ntmps117
        go_wp2
        go_ret2
        exact ⟨rfl, (Below.refl _ _).alloc (Nat.le_refl _) _⟩
    · rw [putR_no (by omega)]
      go_enter Tryd.func117, Tryd.ntmps117
      go_wp2
      go_ret2
      exact ⟨rfl, Below.refl _ _⟩
  · rw [putR_no (by omega)]
    go_enter Tryd.func117, Tryd.ntmps117
    go_wp2
    go_ret2
    exact ⟨rfl, Below.refl _ _⟩
end Go.Proofs.YtoepcplbpochpaaDoor
