/-
  What leb.Encode answers, of every list of ranges.
-/
import Derived.Test.YtoepcplbpochpaaWritten
namespace Go.Proofs.Ytoepcplbpochpaa
open Go.RowKit

/-- The numbers that are written of a table; its bytes as a string. -/
def flat (R : List Rg) : List Int := (R.length : Int) :: R.flatMap nums
def flatTo (R : List Rg) (k : Nat) : List Int := (R.length : Int) :: (R.take k).flatMap nums
def encAll (R : List Rg) : ByteArray := wrS (flat R)

theorem numS_wr (x : Int) : numS x = wrS [x] := by
  apply Go.WideShapes.bytes_inj
  rw [numS_data, wrS_data]; unfold bytesOf; simp
theorem flatMap_len (R : List Rg) : (R.flatMap nums).length = 5 * R.length := by
  induction R with
  | nil => rfl
  | cons r R ih => rw [List.flatMap_cons, List.length_append, ih, List.length_cons]; show 5 + _ = _; omega
theorem flatTo_len (R : List Rg) (k : Nat) : (flatTo R k).length ≤ 1 + 5 * k := by
  unfold flatTo; rw [List.length_cons, flatMap_len, List.length_take]; omega
theorem take_rg (R : List Rg) (k : Nat) (h : k < R.length) : R.take (k + 1) = R.take k ++ [rg R k] := by
  rw [List.take_succ_eq_append_getElem h]; unfold rg; rw [List.getD_eq_getElem?_getD, List.getElem?_eq_getElem h]; rfl
theorem flatTo_succ (R : List Rg) (k : Nat) (h : k < R.length) : flatTo R (k + 1) = flatTo R k ++ nums (rg R k) := by
  unfold flatTo; rw [take_rg R k h, List.flatMap_append]; simp
theorem flatTo_end (R : List Rg) : flatTo R R.length = flat R := by unfold flatTo flat; rw [List.take_length]

theorem isTab_len {R : List Rg} (h : isTab R = true) : R.length ≤ 200 := by
  unfold isTab at h; rw [Bool.and_eq_true, decide_eq_true_eq] at h; exact h.1
theorem isTab_rg {R : List Rg} (h : isTab R = true) {k : Nat} (hk : k < R.length) : isRg (rg R k) = true := by
  unfold isTab tabTo at h; rw [Bool.and_eq_true, List.all_eq_true] at h
  have := h.2 k (by rw [List.mem_range]; exact hk)
  rw [Bool.and_eq_true] at this; exact this.1

/-- What Encode answers. -/
def encV (R : List Rg) : Value := if isTab R = true then .tuple #[.string (encAll R), .int .i64 0] else .tuple #[.string ByteArray.empty, .int .i64 10]
theorem encV_yes {R : List Rg} (h : isTab R = true) : encV R = .tuple #[.string (encAll R), .int .i64 0] := by unfold encV; rw [if_pos h]
theorem encV_no {R : List Rg} (h : isTab R = false) : encV R = .tuple #[.string ByteArray.empty, .int .i64 10] := by unfold encV; rw [if_neg (by rw [h]; decide)]

theorem ret_str2 {a b : ByteArray} {z : Int} (h : a = b) : Ending.returned (.tuple #[.string a, .int .i64 z]) = .returned (.tuple #[.string b, .int .i64 z]) := by rw [h]

set_option maxRecDepth 100000 in
set_option maxHeartbeats 1000000 in
theorem encode_any (R : List Rg) (ao : Option Addr) (cap : Nat) (w : World) (hH : Held w ao R) (hlen : R.length ≤ 9223372036854775807) :
    Calls Try.prog 11 #[.slice ao R.length cap] w fun e w' => e = .returned (encV R) ∧ Below w.heap.size w w' := by
  have T := hide (fun w (h : Held w ao R) => isTable_any R ao cap w h hlen)
  cases ht : isTab R
  · rw [encV_no ht]
    rw [ht] at T
    clear ht
    go_enter Try.func11, Try.ntmps11
    go_wp2_with fail
    refine (unhide T _ hH).mono ?_
    rintro e w1 ⟨rfl, hb1⟩
    go_wp2
    go_ret2
    exact ⟨rfl, hb1⟩
  · rw [encV_yes ht]
    rw [ht] at T
    have HT := hide ht
    have h200 := isTab_len ht
    have N := hide (fun w => number_any (R.length : Int) w (by omega) (by omega))
    clear ht
    go_enter Try.func11, Try.ntmps11
    go_wp2_with fail
    refine (unhide T _ hH).mono ?_
    rintro e w1 ⟨rfl, hb1⟩
    go_wp2_with fail
    refine (unhide N _).mono ?_
    rintro e w2 ⟨rfl, hb2⟩
    have hB := hb1.trans (hb2.mono hb1.size)
    clear hb1 hb2
    go_wp2_with fail
    go_loopw [4, 5] (fun s i wr => ∃ k : Nat, k ≤ R.length ∧ i = .int .i64 k ∧ s = .string (wrS (flatTo R k)) ∧ Below w.heap.size w wr) (fun _ i _ => R.length - (intOf i).toNat)
    case atStart => exact ⟨0, Nat.zero_le _, rfl, by rw [numS_wr]; unfold flatTo; simp, hB⟩
    case round =>
      obtain ⟨k, hk, rfl, rfl, hbel⟩ := hrel
      have hs1 : (wrS (flatTo R k)).size ≤ 300000 := by have := wrS_size_le (flatTo R k); have := flatTo_len R k; omega
      by_cases hlt : k < R.length
      · have hrg := isTab_rg (unhide HT) hlt
        have P := hide (fun w => rangeBytes_any (rg R k) w hrg)
        have hs2 : (wrS (nums (rg R k))).size ≤ 15 := wrS_size_le _
        have HS := hide (flatTo_succ R k hlt)
        obtain ⟨b, off, rfl, hb, hl⟩ : ∃ b off, ao = some ⟨b, off, none⟩ ∧ b < w.heap.size ∧ Lie w b off R := by
          rcases hH with h | h
          · subst h; exact absurd hlt (by simp)
          · exact h
        obtain ⟨c0, c1, c2, c3, c4⟩ := (hl k hlt).below hbel hb
        clear hrg
        go_wp2_with fail
        refine (unhide P _).mono ?_
        rintro e w1 ⟨rfl, hb1⟩
        go_wp2
        go_roundw
        case rel => exact ⟨k + 1, by omega, by go_num, by rw [wrS_app, unhide HS], hbel.trans (hb1.mono hbel.size)⟩
        case measure => simp [intOf]; omega
      · have hk' : k = R.length := by omega
        have e := hide (show flatTo R k = flat R by rw [hk', flatTo_end])
        clear hk'
        go_wp2
        go_ret2
        exact ⟨ret_str2 (by rw [unhide e]; rfl), hbel⟩
end Go.Proofs.Ytoepcplbpochpaa
