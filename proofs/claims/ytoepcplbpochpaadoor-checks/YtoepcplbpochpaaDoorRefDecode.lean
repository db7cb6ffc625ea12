/-
  What lodgeref.Decode answers, of every string: just what leb.Decode answers.
-/
import Derived.Test.YtoepcplbpochpaaDoorDecode
import Derived.Test.YtoepcplbpochpaaDoorRefGetAll
import Derived.Deep.AppendLies
namespace Go.Proofs.YtoepcplbpochpaaDoor
open Go.RowKit

theorem rgives_or (s : ByteArray) (p : Nat) (hs : s.size ≤ maxLen) (hp : p ≤ s.size) :
    (∃ (x : Int) (q : Nat), Fine x ∧ D s p = encB x ++ D s q ∧ q ≤ s.size ∧
      ∀ w, Calls Tryd.prog 92 #[.string s, .int .i64 p] w fun e w' => e = .returned (.tuple #[.int .i64 x, .int .i64 q, .int .i64 0]) ∧ Below w.heap.size w w') ∨
    (getL (D s p) = none ∧ ∀ w, Calls Tryd.prog 92 #[.string s, .int .i64 p] w fun e w' => e = .returned (.tuple #[.int .i64 0, .int .i64 0, .int .i64 14]) ∧ Below w.heap.size w w') := by
  have hi : (p : Int) ≤ 9223372036854775807 := by unfold maxLen at hs; omega
  have G := fun w => refget_any s (p : Int) w hs hi
  cases h : getL (D s p) with
  | none =>
    refine .inr ⟨rfl, fun w => ?_⟩
    have := G w
    rw [getR_none (k := p) h] at this
    exact this
  | some xj =>
    obtain ⟨x, j⟩ := xj
    obtain ⟨hf, hl, hj⟩ := getL_sound _ _ _ h
    have hq : p + j ≤ s.size := by
      have := congrArg List.length hl
      rw [List.length_append, List.length_drop, D_len, ← hj] at this
      omega
    refine .inl ⟨x, p + j, hf, ?_, hq, fun w => ?_⟩
    · rw [hl]; congr 1; unfold D; rw [List.drop_drop]
    · have := G w
      rw [getR_some (k := p) h] at this
      exact this

/-- The ranges that a list of numbers is taken for. -/
def rgAt (xs : List Int) (i : Nat) : Rg := ⟨nth xs (5 * i + 1), nth xs (5 * i + 2), nth xs (5 * i + 2) + nth xs (5 * i + 3), nth xs (5 * i + 4), nth xs (5 * i + 5)⟩
def rgs (xs : List Int) (k : Nat) : List Rg := (List.range k).map (rgAt xs)
theorem rgs_succ (xs : List Int) (k : Nat) : rgs xs (k + 1) = rgs xs k ++ [rgAt xs k] := by unfold rgs; rw [List.range_succ, List.map_append]; rfl
theorem rgs_len (xs : List Int) (k : Nat) : (rgs xs k).length = k := by unfold rgs; simp

theorem nth_flat : ∀ (R : List Rg) (i : Nat), i < R.length → ∀ (c : Int) (j : Nat), j < 5 → nth (c :: R.flatMap nums) (5 * i + (j + 1)) = nth (nums (rg R i)) j
  | [], _, h, _, _, _ => absurd h (by simp)
  | r :: R, 0, _, c, j, hj => by
    unfold nth; rw [List.flatMap_cons, Nat.mul_zero, Nat.zero_add]
    simp only [List.getD_eq_getElem?_getD, List.getElem?_cons_succ]
    rw [List.getElem?_append_left (by exact hj)]; rfl
  | r :: R, i + 1, h, c, j, hj => by
    have ih := nth_flat R i (by simpa using h) c j hj
    unfold nth at *
    rw [List.flatMap_cons]
    simp only [List.getD_eq_getElem?_getD] at *
    rw [show 5 * (i + 1) + (j + 1) = (5 * i + j + 5) + 1 by omega, List.getElem?_cons_succ, List.getElem?_append_right (by show 5 ≤ _; omega), show 5 * i + j + 5 - (nums r).length = 5 * i + j by show _ - 5 = _; omega]
    rw [show 5 * i + (j + 1) = (5 * i + j) + 1 by omega, List.getElem?_cons_succ] at ih
    rw [ih]; rfl

theorem rgs_flat (R : List Rg) : rgs (flat R) R.length = R := by
  apply List.ext_getElem?
  intro i
  by_cases hi : i < R.length
  · have e : R[i]? = some (rg R i) := by unfold rg; rw [List.getD_eq_getElem?_getD, List.getElem?_eq_getElem hi]; rfl
    rw [e]; unfold rgs; rw [List.getElem?_map, List.getElem?_range hi]
    have k := nth_flat R i hi (R.length : Int)
    show some (rgAt (flat R) i) = _
    unfold rgAt flat
    rw [show 5 * i + 1 = 5 * i + (0 + 1) by omega, show 5 * i + 2 = 5 * i + (1 + 1) by omega, show 5 * i + 3 = 5 * i + (2 + 1) by omega, show 5 * i + 4 = 5 * i + (3 + 1) by omega, show 5 * i + 5 = 5 * i + (4 + 1) by omega,
      k 0 (by decide), k 1 (by decide), k 2 (by decide), k 3 (by decide), k 4 (by decide)]
    have e3 : nth (nums (rg R i)) 1 + nth (nums (rg R i)) 2 = (rg R i).t := by show (rg R i).f + ((rg R i).t - (rg R i).f) = _; omega
    rw [e3]; rfl
  · rw [List.getElem?_eq_none (by rw [rgs_len]; omega), List.getElem?_eq_none (by omega)]

/-- If the string holds a table, what was read is that table. -/
theorem read_all {s : ByteArray} {xs : List Int} {p : Nat} {R : List Rg} (hx : ∀ x ∈ xs, Fine x) (h : s.data.toList = bytesOf xs ++ D s p) (hend : s.size ≤ p ∨ 1002 ≤ xs.length) (ht : TabS s R) : xs = flat R := by
  have hl : (flat R).length ≤ 1001 := by have := isTab_len ht.1; unfold flat; rw [List.length_cons, flatMap_len]; omega
  have e : bytesOf (flat R) ++ [] = bytesOf xs ++ D s p := by rw [List.append_nil, ht.2, h]
  rcases hend with he | he
  · have hD : D s p = [] := List.length_eq_zero_iff.1 (by rw [D_len]; omega)
    rw [hD, List.append_nil, List.append_nil] at e
    exact (bytesOf_inj (flat_fine ht.1) hx e).symm
  · obtain ⟨zs, e1, e2⟩ := uniq _ _ _ _ (flat_fine ht.1) hx (by omega) e
    match zs with
    | [] => rw [e1, List.append_nil]
    | z :: zs =>
      have := getL_enc (hx z (by rw [e1]; simp)) (bytesOf zs ++ D s p)
      rw [← List.append_assoc, ← bytesOf_cons, ← e2] at this; cases this

theorem read_stuck {s : ByteArray} {xs : List Int} {p : Nat} (hx : ∀ x ∈ xs, Fine x) (h : s.data.toList = bytesOf xs ++ D s p) (hp : p < s.size) (hn : getL (D s p) = none) : ∀ R, ¬ TabS s R := by
  intro R ht
  have e : bytesOf xs ++ D s p = bytesOf (flat R) ++ [] := by rw [List.append_nil, ht.2, h]
  by_cases hl : xs.length < (flat R).length
  · exact none_short hx (flat_fine ht.1) hl e hn
  · obtain ⟨zs, e1, e2⟩ := uniq _ _ _ _ (flat_fine ht.1) hx (by omega) e.symm
    have := congrArg List.length e2
    rw [List.length_append, D_len] at this
    simp at this; omega

theorem rgs_tab {s : ByteArray} {xs : List Int} {p : Nat} {R : List Rg} {n : Nat} (hx : ∀ x ∈ xs, Fine x) (h : s.data.toList = bytesOf xs ++ D s p) (hend : s.size ≤ p ∨ 1002 ≤ xs.length) (hn : 5 * n + 5 ≥ xs.length ∧ 5 * n + 1 ≤ xs.length ∨ n = 0 ∧ xs.length ≤ 5) (ht : TabS s R) : rgs xs n = R := by
  have e := read_all hx h hend ht
  have hl : xs.length = 1 + 5 * R.length := by rw [e]; unfold flat; rw [List.length_cons, flatMap_len]; omega
  have : n = R.length := by omega
  rw [this, e, rgs_flat]

end Go.Proofs.YtoepcplbpochpaaDoor
