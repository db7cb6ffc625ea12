/-
  Lists of numbers as bytes: what lodgeref.written and leb.rangeBytes answer.
-/
import Derived.Test.YtoepcplbpochpaaDoorIsTable
import Derived.Test.YtoepcplbpochpaaDoorParse
namespace Go.Proofs.YtoepcplbpochpaaDoor
open Go.RowKit

/-- Numbers, one behind the other, as a string. -/
def wrS (l : List Int) : ByteArray := ⟨(bytesOf l).toArray⟩

theorem wrS_nil : wrS [] = ⟨#[]⟩ := rfl
theorem wrS_data (l : List Int) : (wrS l).data.toList = bytesOf l := rfl
theorem wrS_snoc (l : List Int) (x : Int) : wrS l ++ numS x = wrS (l ++ [x]) := by
  apply Go.WideShapes.bytes_inj
  rw [ByteArray.data_append, Array.toList_append, wrS_data, numS_data, wrS_data]
  unfold bytesOf
  rw [List.flatMap_append]; simp
theorem wrS_app (l m : List Int) : wrS l ++ wrS m = wrS (l ++ m) := by
  apply Go.WideShapes.bytes_inj
  rw [ByteArray.data_append, Array.toList_append, wrS_data, wrS_data, wrS_data]
  unfold bytesOf
  rw [List.flatMap_append]
theorem encB_le (x : Int) : (encB x).length ≤ 3 := by unfold encB; rw [List.length_map, enc_len]; split <;> (try split) <;> omega
theorem wrS_size_le (l : List Int) : (wrS l).size ≤ 3 * l.length := by
  rw [Lib.size_eq, wrS_data]; unfold bytesOf
  induction l with
  | nil => simp
  | cons x r ih => rw [List.flatMap_cons, List.length_append, List.length_cons]; have := encB_le x; omega

/-- The i-th number of a list. -/
theorem take_nth (l : List Int) (k : Nat) (h : k < l.length) : l.take (k + 1) = l.take k ++ [nth l k] := by
  rw [List.take_succ_eq_append_getElem h]; unfold nth; rw [List.getD_eq_getElem?_getD, List.getElem?_eq_getElem h]; rfl

theorem ret_str {a b : ByteArray} (h : a = b) : Ending.returned (.string a) = .returned (.string b) := by rw [h]

set_option maxRecDepth 100000 in
set_option maxHeartbeats 1000000 in
theorem written_any (l : List Int) (b off cap : Nat) (w : World) (hl : l.length ≤ 100000) (hb : b < w.heap.size) (hc : ∀ i, i < l.length → w.cell? ⟨b, off + i, none⟩ = some (.int .i64 (nth l i)))
    (hr : ∀ i, i < l.length → 0 ≤ nth l i ∧ nth l i ≤ 2097151) :
    Calls Tryd.prog 119 #[.slice (some ⟨b, off, none⟩) l.length cap] w fun e w' => e = .returned (.string (wrS l)) ∧ Below w.heap.size w w' := by
  go_enter Tryd.func119, Tryd.ntmps119
  go_wp2
  go_loopw [3, 4] (fun s i wr => ∃ k : Nat, k ≤ l.length ∧ i = .int .i64 k ∧ s = .string (wrS (l.take k)) ∧ Below w.heap.size w wr) (fun _ i _ => l.length - (intOf i).toNat)
  case atStart => exact ⟨0, Nat.zero_le _, rfl, rfl, Below.refl _ _⟩
  case round =>
    obtain ⟨k, hk, rfl, rfl, hbel⟩ := hrel
    by_cases hlt : k < l.length
    · have hcell := (hbel.cell (p := ⟨b, off + k, none⟩) hb).trans (hc k hlt)
      obtain ⟨r0, r1⟩ := hr k hlt
      have P : ∀ w, Calls Tryd.prog 117 #[.int .i64 (nth l k)] w fun e w' => e = .returned (.tuple #[.string (numS (nth l k)), .int .i64 0]) ∧ Below w.heap.size w w' := fun w => by
        have := refput_any (nth l k) w; rw [putR_yes r0 r1] at this; exact this
      have P := hide P
      have hs1 : (wrS (l.take k)).size ≤ 300000 := by have := wrS_size_le (l.take k); rw [List.length_take] at this; omega
      have hs2 : (numS (nth l k)).size ≤ 3 := by have := encB_le (nth l k); rw [Lib.size_eq, numS_data]; exact this
      have HS := hide (take_nth l k hlt)
      go_wp2_with fail
      refine (unhide P _).mono ?_
      rintro e w1 ⟨rfl, hb1⟩
      go_wp2
      go_roundw
      case rel => exact ⟨k + 1, by omega, by go_num, by rw [wrS_snoc, unhide HS], hbel.trans (hb1.mono hbel.size)⟩
      case measure => simp [intOf]; omega
    · have : k = l.length := by omega
      subst this
      go_wp2
      go_ret
      exact ⟨ret_str (by rw [List.take_length]), hbel⟩

/-- The five numbers that are written of a range. -/
def nums (r : Rg) : List Int := [r.v, r.f, r.t - r.f, r.k, r.a]

theorem nums_ok {r : Rg} (h : isRg r = true) : ∀ i, i < 5 → 0 ≤ nth (nums r) i ∧ nth (nums r) i ≤ 65535 := by
  unfold isRg at h
  rw [decide_eq_true_eq] at h
  intro i hi
  match i, hi with
  | 0, _ => show 0 ≤ r.v ∧ r.v ≤ 65535; omega
  | 1, _ => show 0 ≤ r.f ∧ r.f ≤ 65535; omega
  | 2, _ => show 0 ≤ r.t - r.f ∧ r.t - r.f ≤ 65535; omega
  | 3, _ => show 0 ≤ r.k ∧ r.k ≤ 65535; omega
  | 4, _ => show 0 ≤ r.a ∧ r.a ≤ 65535; omega

end Go.Proofs.YtoepcplbpochpaaDoor
