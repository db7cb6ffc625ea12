/-
  What leb.numberBytes, leb.Put and lodgeref.Put answer, at every number.
-/
import Derived.Test.YtoepcplbpochpaaRows
import Derived.Test.YtoepcplbpochpaaMath
import Derived.WalkKit
import Derived.WalkSpells
import Derived.WalkLawsBesides
namespace Go.Proofs.Ytoepcplbpochpaa
open Go.RowKit

theorem hide {p : Prop} (h : p) : Hid p := h
theorem unhide {p : Prop} (h : Hid p) : p := h
theorem Try.info5 : (Try.prog.info? 5).map (fun i => (i.zero, i.size, i.bytes)) = some (some (.int .u8 0), 1, 1) := by kernel_rfl

theorem own_ge {w : World} {base : Nat} {e : TypeId} {size n : Nat} {v : Value} {xs : List Value} (h : w.ownsRow base e size v n xs) : ∀ k, v.ownBlock = some k → base ≤ k := by
  intro k hk
  rcases h.2 with ⟨rfl, _⟩ | ⟨g, cap, cur, rfl, hg, _⟩
  · simp [Value.ownBlock] at hk
  · simp [Value.ownBlock] at hk; omega

/-- The string of a row of bytes that the call owns. -/
theorem run_own_string {w : World} {base n : Nat} {v : Value} {xs : List Int} (h : w.ownsRow base 5 1 v n (xs.map (Value.int .u8))) (hn : xs.length = n) :
    (convert 37 9 v).run Try.prog w = .ok (.string (strOfNums xs)) w := by
  rcases h.2 with ⟨rfl, h0⟩ | ⟨g, cap, cur, rfl, hg, hh⟩
  · have : xs = [] := List.length_eq_zero_iff.1 (by omega)
    subst this
    exact run_convert_bytes_nil w 37 5 Try.underlying37 Try.underlying5 0 0 9 Try.underlying9
  · refine run_convert_bytes_arg w 37 5 Try.underlying37 Try.underlying5 g 0 n cap xs hn (fun i hi => ?_) 9 Try.underlying9
    have := World.ownsRow.cellAt h i (by omega)
    rw [Nat.zero_add, this]
    simp [List.getD, List.getElem?_eq_getElem (show i < xs.length by omega)]

set_option maxHeartbeats 400000 in
theorem number_any (n0 : Int) (w : World) (h0 : 0 ≤ n0) (h1 : n0 ≤ 2097151) :
    Calls Try.prog 19 #[.int .i64 n0] w fun e w' => e = .returned (.string (numS n0)) ∧ Below w.heap.size w w' := by
  obtain ⟨i0, hi, hz0, hz1, hz2⟩ := info_parts Try.info5
  go_enter Try.func19, Try.ntmps19
  go_wp2
  go_loopw [0, 3] (fun n l wr => ∃ (m : Int) (xs : List Int), 0 ≤ m ∧ m ≤ 2097151 ∧ n = .int .i64 m ∧ xs ++ encI m = encI n0 ∧ wr.ownsRow w.heap.size 5 1 l xs.length (xs.map (Value.int .u8)) ∧ Below w.heap.size w wr) (fun n _ _ => (intOf n).toNat)
  case atStart => exact ⟨n0, [], h0, h1, rfl, rfl, World.ownsRow_nil _ _ _ _, Below.refl _ _⟩
  case round =>
    obtain ⟨m, xs, hm0, hm1, rfl, happ, hown, hbel⟩ := hrel
    have hx3 : (encI n0).length ≤ 3 := by unfold encI; split <;> (try split) <;> simp
    have hxl : xs.length ≤ 3 := by have := congrArg List.length happ; simp at this; omega
    have hB := hbel.size
    by_cases hm : 128 ≤ m
    · have hA : (xs ++ [m % 128 + 128]) ++ encI (m / 128) = encI n0 := by rw [← happ, enc_step hm hm1]; simp
      have HA := hide hA
      clear happ hA hx3
      go_wp2_with (at_builtin; refine wpList_append_own _ rfl _ _ 37 rfl w.heap.size 5 i0 (.int .u8 0) 1 1 Try.underlying37 hi hz0 hz1 hz2 rfl (by decide) _ _ _ rfl (hown.alloc _) ⟨wr.heap.size, 0, none⟩ 1 1 [.int .u8 (m % 128 + 128)] rfl rfl ?c1 ?c2 ?c3 ?c4 ?c5 ?_)
      case c1 => exact cell_one_new _ _ _
      case c2 => intro u hu; simp at hu; subst hu; rfl
      case c3 => unfold maxLen; omega
      case c4 => omega
      case c5 => first | omega | (simp; omega)
      intro v' w1 hown' hgrow _
      have hb1 : Below w.heap.size w w1 := (hbel.alloc hbel.size _).grown hgrow (by simp; omega) (own_ge hown)
      clear hgrow
      go_wp2
      go_roundw
      case rel => exact ⟨m / 128, xs ++ [m % 128 + 128], by omega, by omega, rfl, unhide HA, by simpa using hown', hb1⟩
      case measure => simp [intOf]; omega
    · have hA : xs ++ [m] = encI n0 := by rw [← happ, enc_one (by omega)]
      have HA := hide hA
      clear happ hA hx3
      go_wp2_with (at_builtin; refine wpList_append_own _ rfl _ _ 37 rfl w.heap.size 5 i0 (.int .u8 0) 1 1 Try.underlying37 hi hz0 hz1 hz2 rfl (by decide) _ _ _ rfl (hown.alloc _) ⟨wr.heap.size, 0, none⟩ 1 1 [.int .u8 m] rfl rfl ?d1 ?d2 ?d3 ?d4 ?d5 ?_)
      case d2 => first | rfl | simp
      case d3 => unfold maxLen; omega
      case d4 => omega
      case d5 => first | omega | (simp; omega)
      intro v' w1 hown' hgrow _
      have hb1 : Below w.heap.size w w1 := (hbel.alloc hbel.size _).grown hgrow (by simp; omega) (own_ge hown)
      have hcv := run_own_string (xs := xs ++ [m]) (n := xs.length + 1) (by simpa using hown') (by simp)
      clear hgrow
      go_wp2
      go_ret
      exact ⟨by unfold numS; rw [unhide HA]; rfl, hb1⟩

/-- What Put answers: the string and the error. -/
def putR (n : Int) : Value := if 0 ≤ n ∧ n ≤ 2097151 then .tuple #[.string (numS n), .int .i64 0] else .tuple #[.string ByteArray.empty, .int .i64 13]
theorem putR_yes {n : Int} (h0 : 0 ≤ n) (h1 : n ≤ 2097151) : putR n = .tuple #[.string (numS n), .int .i64 0] := by unfold putR; rw [if_pos ⟨h0, h1⟩]
theorem putR_no {n : Int} (h : ¬ (0 ≤ n ∧ n ≤ 2097151)) : putR n = .tuple #[.string ByteArray.empty, .int .i64 13] := by unfold putR; rw [if_neg h]

theorem put_any (n : Int) (w : World) :
    Calls Try.prog 7 #[.int .i64 n] w fun e w' => e = .returned (putR n) ∧ Below w.heap.size w w' := by
  by_cases h0 : 0 ≤ n
  · by_cases h1 : n ≤ 2097151
    · rw [putR_yes h0 h1]
      go_enter Try.func7, Try.ntmps7
      go_wp2_with (go_at_call 19; refine (number_any n _ h0 h1).mono ?_; rintro e w' ⟨rfl, hb⟩)
      go_ret2
      exact ⟨rfl, by assumption⟩
    · rw [putR_no (by omega)]
      go_enter Try.func7, Try.ntmps7
      go_wp2
      go_ret2
      exact ⟨rfl, Below.refl _ _⟩
  · rw [putR_no (by omega)]
    go_enter Try.func7, Try.ntmps7
    go_wp2
    go_ret2
    exact ⟨rfl, Below.refl _ _⟩

/-- The string of a slice of bytes that was just laid out. -/
theorem conv_new (w : World) (xs : List Int) : (convert 37 9 (.slice (some ⟨w.heap.size, 0, none⟩) xs.length xs.length)).run Try.prog (w.alloc (.cells (xs.map (Value.int .u8)).toArray 5)) =
    .ok (.string (strOfNums xs)) (w.alloc (.cells (xs.map (Value.int .u8)).toArray 5)) := by
  refine run_convert_bytes_arg _ 37 5 Try.underlying37 Try.underlying5 w.heap.size 0 xs.length xs.length xs rfl (fun i hi => ?_) 9 Try.underlying9
  rw [Nat.zero_add, World.cell?_alloc_at (hn := rfl)]
  simp [List.getD, List.getElem?_eq_getElem hi]
theorem conv1 (w : World) (a : Int) : (convert 37 9 (.slice (some ⟨w.heap.size, 0, none⟩) 1 1)).run Try.prog (w.alloc (.cells #[.int .u8 a] 5)) = .ok (.string (strOfNums [a])) (w.alloc (.cells #[.int .u8 a] 5)) := conv_new w [a]
theorem conv2 (w : World) (a b : Int) : (convert 37 9 (.slice (some ⟨w.heap.size, 0, none⟩) 2 2)).run Try.prog (w.alloc (.cells #[.int .u8 a, .int .u8 b] 5)) = .ok (.string (strOfNums [a, b])) (w.alloc (.cells #[.int .u8 a, .int .u8 b] 5)) := conv_new w [a, b]
theorem conv3 (w : World) (a b c : Int) : (convert 37 9 (.slice (some ⟨w.heap.size, 0, none⟩) 3 3)).run Try.prog (w.alloc (.cells #[.int .u8 a, .int .u8 b, .int .u8 c] 5)) = .ok (.string (strOfNums [a, b, c])) (w.alloc (.cells #[.int .u8 a, .int .u8 b, .int .u8 c] 5)) := conv_new w [a, b, c]

set_option maxHeartbeats 400000 in
theorem refput_any (n : Int) (w : World) :
    Calls Try.prog 8 #[.int .i64 n] w fun e w' => e = .returned (putR n) ∧ Below w.heap.size w w' := by
  by_cases h0 : 0 ≤ n
  · by_cases h1 : n ≤ 2097151
    · rw [putR_yes h0 h1]
      by_cases h2 : n < 128
      · have hc := conv1 w
        have e1 : numS n = strOfNums [n % 128] := by unfold numS; rw [enc_one h2]; congr 2; omega
        rw [e1]
        clear e1
        go_enter Try.func8, Try.ntmps8
        go_wp2
        go_ret2
        exact ⟨rfl, (Below.refl _ _).alloc (Nat.le_refl _) _⟩
      by_cases h3 : n < 16384
      · have hc := conv2 w
        have e1 : numS n = strOfNums [n % 128 + 128, n / 128 % 128] := by unfold numS; rw [enc_two h2 h3]; congr 3; omega
        rw [e1]
        clear e1
        go_enter Try.func8, Try.ntmps8
        go_wp2
        go_ret2
        exact ⟨rfl, (Below.refl _ _).alloc (Nat.le_refl _) _⟩
      · have hc := conv3 w
        have e1 : numS n = strOfNums [n % 128 + 128, n / 128 % 128 + 128, n / 16384] := by unfold numS; rw [enc_three h3]
        rw [e1]
        clear e1
        go_enter Try.func8, Try.ntmps8
        go_wp2
        go_ret2
        exact ⟨rfl, (Below.refl _ _).alloc (Nat.le_refl _) _⟩
    · rw [putR_no (by omega)]
      go_enter Try.func8, Try.ntmps8
      go_wp2
      go_ret2
      exact ⟨rfl, Below.refl _ _⟩
  · rw [putR_no (by omega)]
    go_enter Try.func8, Try.ntmps8
    go_wp2
    go_ret2
    exact ⟨rfl, Below.refl _ _⟩
end Go.Proofs.Ytoepcplbpochpaa
