/-
  Lists of numbers as bytes: what lodgeref.written and leb.rangeBytes answer.
-/
import Derived.Test.YtoepcplbpochpaaIsTable
import Derived.Test.YtoepcplbpochpaaParse
namespace Go.Proofs.Ytoepcplbpochpaa
open Go.RowKit

/-- Numbers, one behind the other, as a string. -/
def wrS (l : List Int) : ByteArray := ⟨(bytesOf l).toArray⟩

theorem wrS_nil : wrS [] = ⟨#[]⟩ := rfl
theorem wrS_data (l : List Int) : (wrS l).data.toList = bytesOf l := rfl
theorem wrS_snoc (l : List Int) (x : Int) : wrS l ++ numS x = wrS (l ++ [x]) := by
  apply Go.WideShapes.bytes_inj
  rw [ByteArray.data_append, Array.toList_append, wrS_data, numS_data, wrS_data]
  unfold bytesOf
  rw [List.flatMap_append]; simp
theorem wrS_app (l m : List Int) : wrS l ++ wrS m = wrS (l ++ m) := by
  apply Go.WideShapes.bytes_inj
  rw [ByteArray.data_append, Array.toList_append, wrS_data, wrS_data, wrS_data]
  unfold bytesOf
  rw [List.flatMap_append]
theorem encB_le (x : Int) : (encB x).length ≤ 3 := by unfold encB; rw [List.length_map, enc_len]; split <;> (try split) <;> omega
theorem wrS_size_le (l : List Int) : (wrS l).size ≤ 3 * l.length := by
  rw [Lib.size_eq, wrS_data]; unfold bytesOf
  induction l with
  | nil => simp
  | cons x r ih => rw [List.flatMap_cons, List.length_append, List.length_cons]; have := encB_le x; omega

/-- The i-th number of a list. -/
def nth (l : List Int) (i : Nat) : Int := l.getD i 0
theorem take_nth (l : List Int) (k : Nat) (h : k < l.length) : l.take (k + 1) = l.take k ++ [nth l k] := by
  rw [List.take_succ_eq_append_getElem h]; unfold nth; rw [List.getD_eq_getElem?_getD, List.getElem?_eq_getElem h]; rfl

theorem ret_str {a b : ByteArray} (h : a = b) : Ending.returned (.string a) = .returned (.string b) := by rw [h]

set_option maxRecDepth 100000 in
set_option maxHeartbeats 1000000 in
theorem written_any (l : List Int) (b off cap : Nat) (w : World) (hl : l.length ≤ 100000) (hb : b < w.heap.size) (hc : ∀ i, i < l.length → w.cell? ⟨b, off + i, none⟩ = some (.int .i64 (nth l i)))
    (hr : ∀ i, i < l.length → 0 ≤ nth l i ∧ nth l i ≤ 2097151) :
    Calls Try.prog 23 #[.slice (some ⟨b, off, none⟩) l.length cap] w fun e w' => e = .returned (.string (wrS l)) ∧ Below w.heap.size w w' := by
  go_enter Try.func23, Try.ntmps23
  go_wp2
  go_loopw [3, 4] (fun s i wr => ∃ k : Nat, k ≤ l.length ∧ i = .int .i64 k ∧ s = .string (wrS (l.take k)) ∧ Below w.heap.size w wr) (fun _ i _ => l.length - (intOf i).toNat)
  case atStart => exact ⟨0, Nat.zero_le _, rfl, rfl, Below.refl _ _⟩
  case round =>
    obtain ⟨k, hk, rfl, rfl, hbel⟩ := hrel
    by_cases hlt : k < l.length
    · have hcell := (hbel.cell (p := ⟨b, off + k, none⟩) hb).trans (hc k hlt)
      obtain ⟨r0, r1⟩ := hr k hlt
      have P : ∀ w, Calls Try.prog 8 #[.int .i64 (nth l k)] w fun e w' => e = .returned (.tuple #[.string (numS (nth l k)), .int .i64 0]) ∧ Below w.heap.size w w' := fun w => by
        have := refput_any (nth l k) w; rw [putR_yes r0 r1] at this; exact this
      have P := hide P
      have hs1 : (wrS (l.take k)).size ≤ 300000 := by have := wrS_size_le (l.take k); rw [List.length_take] at this; omega
      have hs2 : (numS (nth l k)).size ≤ 3 := by have := encB_le (nth l k); rw [Lib.size_eq, numS_data]; exact this
      have HS := hide (take_nth l k hlt)
      go_wp2_with fail
      refine (unhide P _).mono ?_
      rintro e w1 ⟨rfl, hb1⟩
      go_wp2
      go_roundw
      case rel => exact ⟨k + 1, by omega, by go_num, by rw [wrS_snoc, unhide HS], hbel.trans (hb1.mono hbel.size)⟩
      case measure => simp [intOf]; omega
    · have : k = l.length := by omega
      subst this
      go_wp2
      go_ret
      exact ⟨ret_str (by rw [List.take_length]), hbel⟩

/-- The five numbers that are written of a range. -/
def nums (r : Rg) : List Int := [r.v, r.f, r.t - r.f, r.k, r.a]

theorem nums_ok {r : Rg} (h : isRg r = true) : ∀ i, i < 5 → 0 ≤ nth (nums r) i ∧ nth (nums r) i ≤ 65535 := by
  unfold isRg at h
  rw [decide_eq_true_eq] at h
  intro i hi
  match i, hi with
  | 0, _ => show 0 ≤ r.v ∧ r.v ≤ 65535; omega
  | 1, _ => show 0 ≤ r.f ∧ r.f ≤ 65535; omega
  | 2, _ => show 0 ≤ r.t - r.f ∧ r.t - r.f ≤ 65535; omega
  | 3, _ => show 0 ≤ r.k ∧ r.k ≤ 65535; omega
  | 4, _ => show 0 ≤ r.a ∧ r.a ≤ 65535; omega

set_option maxRecDepth 100000 in
set_option maxHeartbeats 1000000 in
theorem rangeBytes_any (r : Rg) (w : World) (hr : isRg r = true) :
    Calls Try.prog 21 #[.agg #[.int .i64 r.v, .int .i64 r.f, .int .i64 r.t, .int .i64 r.k, .int .i64 r.a]] w fun e w' => e = .returned (.string (wrS (nums r))) ∧ Below w.heap.size w w' := by
  have hok := nums_ok hr
  have hb0 : 0 ≤ r.t - r.f ∧ r.t - r.f ≤ 65535 := hok 2 (by decide)
  obtain ⟨hb0, hb1⟩ := hb0
  have hb2 : 0 ≤ r.f ∧ r.f ≤ 65535 := hok 1 (by decide)
  obtain ⟨hb2, hb3⟩ := hb2
  go_enter Try.func21, Try.ntmps21
  go_wp2
  obtain ⟨W, hW, hcell, hsz, hBW⟩ : ∃ W, W = (w.alloc (.cells #[.int .i64 r.v, .int .i64 r.f, .int .i64 r.t, .int .i64 r.k, .int .i64 r.a] 30)).alloc (.cells #[.int .i64 r.v, .int .i64 r.f, .int .i64 (r.t - r.f), .int .i64 r.k, .int .i64 r.a] 49) ∧
      (∀ i, i < 5 → W.cell? ⟨w.heap.size + 1, i, none⟩ = some (.int .i64 (nth (nums r) i))) ∧ W.heap.size = w.heap.size + 2 ∧ Below w.heap.size w W := by
    refine ⟨_, rfl, ?_, by simp, ((Below.refl _ _).alloc (Nat.le_refl _) _).alloc (by simp) _⟩
    intro i hi
    rw [World.cell?_alloc_at (hn := by simp)]
    match i, hi with
    | 0, _ => rfl
    | 1, _ => rfl
    | 2, _ => rfl
    | 3, _ => rfl
    | 4, _ => rfl
  rw [← hW]
  have HZ := hide hsz
  clear hW hsz
  go_loopw [4, 5] (fun s i wr => ∃ k : Nat, k ≤ 5 ∧ i = .int .i64 k ∧ s = .string (wrS ((nums r).take k)) ∧ Below (w.heap.size + 2) W wr) (fun _ i _ => 5 - (intOf i).toNat)
  case atStart => exact ⟨0, Nat.zero_le _, rfl, rfl, Below.refl _ _⟩
  case round =>
    obtain ⟨k, hk, rfl, rfl, hbel⟩ := hrel
    by_cases hlt : k < 5
    · have hc := (hbel.cell (p := ⟨w.heap.size + 1, k, none⟩) (by simp)).trans (hcell k hlt)
      obtain ⟨r0, r1⟩ := hok k hlt
      have P := hide (fun w => number_any (nth (nums r) k) w r0 (by omega))
      have hs1 : (wrS ((nums r).take k)).size ≤ 300000 := by have := wrS_size_le ((nums r).take k); rw [List.length_take] at this; omega
      have hs2 : (numS (nth (nums r) k)).size ≤ 3 := by have := encB_le (nth (nums r) k); rw [Lib.size_eq, numS_data]; exact this
      have HS := hide (take_nth (nums r) k hlt)
      go_wp2_with fail
      refine (unhide P _).mono ?_
      rintro e w1 ⟨rfl, hb1⟩
      go_wp2
      go_roundw
      case rel => exact ⟨k + 1, by omega, by go_num, by rw [wrS_snoc, unhide HS], hbel.trans (hb1.mono (by have := hbel.size; rw [unhide HZ] at this; exact this))⟩
      case measure => simp [intOf]; omega
    · have hk5 : k = 5 := by omega
      have e := hide (show (nums r).take k = nums r by rw [hk5]; rfl)
      clear hk5
      go_wp2
      go_ret
      exact ⟨ret_str (by rw [unhide e]), hBW.trans (hbel.mono (by omega))⟩
end Go.Proofs.Ytoepcplbpochpaa
