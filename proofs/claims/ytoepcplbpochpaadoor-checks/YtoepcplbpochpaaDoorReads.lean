/-
  What Get and getRange answer at a place of a string, by what stands there; and what tables a string can hold.
-/
import Derived.Test.YtoepcplbpochpaaDoorGetRange
import Derived.Test.YtoepcplbpochpaaDoorEncode
namespace Go.Proofs.YtoepcplbpochpaaDoor
open Go.RowKit

/-- What stands in a string from a place on. -/
def D (s : ByteArray) (p : Nat) : List UInt8 := s.data.toList.drop p

theorem D_zero (s : ByteArray) : D s 0 = s.data.toList := rfl
theorem D_len (s : ByteArray) (p : Nat) : (D s p).length = s.size - p := by unfold D; rw [List.length_drop, ← Lib.size_eq]

theorem gives_or (s : ByteArray) (p : Nat) (hs : s.size ≤ maxLen) (hp : p ≤ s.size) :
    (∃ (x : Int) (q : Nat), Fine x ∧ D s p = encB x ++ D s q ∧ q ≤ s.size ∧ Gives s p x q) ∨ (getL (D s p) = none ∧ Fails s p) := by
  have hi : (p : Int) ≤ 9223372036854775807 := by unfold maxLen at hs; omega
  have G := fun w => get_any s (p : Int) w hs hi
  cases h : getL (D s p) with
  | none =>
    refine .inr ⟨rfl, fun w => ?_⟩
    have := G w
    rw [getR_none (k := p) h] at this
    exact this
  | some xj =>
    obtain ⟨x, j⟩ := xj
    obtain ⟨hf, hl, hj⟩ := getL_sound _ _ _ h
    have hq : p + j ≤ s.size := by
      have := congrArg List.length hl
      rw [List.length_append, List.length_drop, D_len, ← hj] at this
      omega
    refine .inl ⟨x, p + j, hf, ?_, hq, fun w => ?_⟩
    · rw [hl]; congr 1; unfold D; rw [List.drop_drop]
    · have := G w
      rw [getR_some (k := p) h] at this
      exact this

/-- A range as an aggregate. -/
def aggOf (r : Rg) : Value := .agg #[.int .i64 r.v, .int .i64 r.f, .int .i64 r.t, .int .i64 r.k, .int .i64 r.a]

/-- getRange at a place: a range and the place behind it; or no five numbers stand there. -/
theorem range_or (s : ByteArray) (p : Nat) (hs : s.size ≤ maxLen) (hp : p ≤ s.size) :
    (∃ (r : Rg) (q : Nat), (∀ x ∈ nums r, Fine x) ∧ D s p = bytesOf (nums r) ++ D s q ∧ q ≤ s.size ∧
      ∀ w, Calls Tryd.prog 89 #[.string s, .int .i64 p] w fun e w' => e = .returned (.tuple #[.agg #[.int .i64 r.v, .int .i64 r.f, .int .i64 r.t, .int .i64 r.k, .int .i64 r.a], .int .i64 q, .int .i64 0]) ∧ Below w.heap.size w w') ∨
    ((∀ ys t, ys.length = 5 → (∀ y ∈ ys, Fine y) → D s p ≠ bytesOf ys ++ t) ∧
      ∀ w, Calls Tryd.prog 89 #[.string s, .int .i64 p] w fun e w' => e = .returned (.tuple #[.agg #[.int .i64 0, .int .i64 0, .int .i64 0, .int .i64 0, .int .i64 0], .int .i64 0, .int .i64 14]) ∧ Below w.heap.size w w') := by
  rcases gives_or s p hs hp with ⟨x0, q1, f0, e0, l1, g0⟩ | ⟨n, b⟩
  case inr => exact .inr ⟨fun ys t hl hy h => none_short (xs := []) (by simp) hy (by simp; omega) h n, fun w => getRange_bad0 s _ w b⟩
  rcases gives_or s q1 hs l1 with ⟨x1, q2, f1, e1, l2, g1⟩ | ⟨n, b⟩
  case inr => exact .inr ⟨fun ys t hl hy h => none_short (xs := [x0]) (r := D s q1) (by simpa using f0) hy (by simp; omega) (by rw [← h, e0]; simp [bytesOf_cons, bytesOf_nil]) n, fun w => getRange_bad1 s _ _ _ w g0 b⟩
  rcases gives_or s q2 hs l2 with ⟨x2, q3, f2, e2, l3, g2⟩ | ⟨n, b⟩
  case inr => exact .inr ⟨fun ys t hl hy h => none_short (xs := [x0, x1]) (r := D s q2) (by simpa using ⟨f0, f1⟩) hy (by simp; omega) (by rw [← h, e0, e1]; simp [bytesOf_cons, bytesOf_nil]) n, fun w => getRange_bad2 s _ _ _ _ _ w g0 g1 b⟩
  rcases gives_or s q3 hs l3 with ⟨x3, q4, f3, e3, l4, g3⟩ | ⟨n, b⟩
  case inr => exact .inr ⟨fun ys t hl hy h => none_short (xs := [x0, x1, x2]) (r := D s q3) (by simpa using ⟨f0, f1, f2⟩) hy (by simp; omega) (by rw [← h, e0, e1, e2]; simp [bytesOf_cons, bytesOf_nil]) n, fun w => getRange_bad3 s _ _ _ _ _ _ _ w g0 g1 g2 b⟩
  rcases gives_or s q4 hs l4 with ⟨x4, q5, f4, e4, l5, g4⟩ | ⟨n, b⟩
  case inr => exact .inr ⟨fun ys t hl hy h => none_short (xs := [x0, x1, x2, x3]) (r := D s q4) (by simpa using ⟨f0, f1, f2, f3⟩) hy (by simp; omega) (by rw [← h, e0, e1, e2, e3]; simp [bytesOf_cons, bytesOf_nil]) n, fun w => getRange_bad4 s _ _ _ _ _ _ _ _ _ w g0 g1 g2 g3 b⟩
  have en : nums ⟨x0, x1, x1 + x2, x3, x4⟩ = [x0, x1, x2, x3, x4] := by unfold nums; simp; omega
  refine .inl ⟨⟨x0, x1, x1 + x2, x3, x4⟩, q5, ?_, ?_, l5, fun w => getRange_ok s _ _ _ _ _ _ _ _ _ _ _ w g0 g1 g2 g3 g4 f1 f2⟩
  · rw [en]; simpa using ⟨f0, f1, f2, f3, f4⟩
  · rw [en, e0, e1, e2, e3, e4]; simp [bytesOf_cons, bytesOf_nil]

/-! ### Which table a string holds -/
def TabS (s : ByteArray) (R : List Rg) : Prop := isTab R = true ∧ bytesOf (flat R) = s.data.toList

theorem flat_fine {R : List Rg} (h : isTab R = true) : ∀ x ∈ flat R, Fine x := by
  intro x hx
  unfold flat at hx
  rw [List.mem_cons, List.mem_flatMap] at hx
  rcases hx with rfl | ⟨r, hr, hx⟩
  · have := isTab_len h; exact ⟨by omega, by omega⟩
  · obtain ⟨k, hk, rfl⟩ := List.mem_iff_getElem.1 hr
    have e : R[k] = rg R k := by unfold rg; rw [List.getD_eq_getElem?_getD, List.getElem?_eq_getElem hk]; rfl
    rw [e] at hx
    have ok := nums_ok (isTab_rg h hk)
    obtain ⟨i, hi, rfl⟩ := List.mem_iff_getElem.1 hx
    have := ok i hi
    unfold nth at this
    rw [List.getD_eq_getElem?_getD, List.getElem?_eq_getElem hi] at this
    have h2 : 0 ≤ (nums (rg R k))[i] ∧ (nums (rg R k))[i] ≤ 65535 := this
    exact ⟨h2.1, by omega⟩

theorem nums_inj {r q : Rg} (h : nums r = nums q) : r = q := by
  unfold nums at h
  simp only [List.cons.injEq, and_true] at h
  obtain ⟨a, b, c, d, e⟩ := h
  obtain ⟨v, f, t, k, x⟩ := r
  obtain ⟨v2, f2, t2, k2, x2⟩ := q
  simp only [Rg.mk.injEq] at *
  omega

theorem flatMap_inj : ∀ {P Q : List Rg}, P.flatMap nums = Q.flatMap nums → P = Q
  | [], [], _ => rfl
  | [], q :: Q, h => by have := congrArg List.length h; rw [flatMap_len, flatMap_len] at this; simp at this
  | p :: P, [], h => by have := congrArg List.length h; rw [flatMap_len, flatMap_len] at this; simp at this
  | p :: P, q :: Q, h => by
    rw [List.flatMap_cons, List.flatMap_cons] at h
    obtain ⟨h1, h2⟩ := List.append_inj h rfl
    rw [nums_inj h1, flatMap_inj h2]

theorem tab_uniq {s : ByteArray} {P Q : List Rg} (hp : TabS s P) (hq : TabS s Q) : P = Q := by
  have := bytesOf_inj (flat_fine hp.1) (flat_fine hq.1) (hp.2.trans hq.2.symm)
  unfold flat at this
  exact flatMap_inj (List.cons.inj this).2

/-- A table begins with its length. -/
theorem tab_head {s : ByteArray} {R : List Rg} (h : TabS s R) : getL s.data.toList = some ((R.length : Int), (encB (R.length : Int)).length) := by
  rw [← h.2]; unfold flat; rw [bytesOf_cons]
  exact getL_enc (flat_fine h.1 _ (by simp [flat])) _

/-- So far as it is read: count, then the ranges Q, then what is left from p on. -/
def ReadTo (s : ByteArray) (count : Int) (Q : List Rg) (p : Nat) : Prop :=
  s.data.toList = encB count ++ (bytesOf (Q.flatMap nums) ++ D s p) ∧ (∀ r ∈ Q, ∀ x ∈ nums r, Fine x) ∧ Fine count

theorem read_fine {s : ByteArray} {count : Int} {Q : List Rg} {p : Nat} (h : ReadTo s count Q p) : ∀ x ∈ count :: Q.flatMap nums, Fine x := by
  intro x hx
  rw [List.mem_cons, List.mem_flatMap] at hx
  rcases hx with rfl | ⟨r, hr, hx⟩
  · exact h.2.2
  · exact h.2.1 r hr x hx

theorem tab_rest {s : ByteArray} {count : Int} {Q R : List Rg} {p : Nat} (h : ReadTo s count Q p) (ht : TabS s R) (hl : (Q.length : Int) ≤ count) :
    (R.length : Int) = count ∧ ∃ zs, R.flatMap nums = Q.flatMap nums ++ zs ∧ D s p = bytesOf zs ∧ ∀ x ∈ zs, Fine x := by
  have e1 := tab_head ht
  rw [h.1, getL_enc h.2.2] at e1
  have ec : count = (R.length : Int) := (Prod.mk.inj (Option.some.inj e1)).1
  have e2 : bytesOf (count :: Q.flatMap nums) ++ D s p = bytesOf (flat R) ++ [] := by
    rw [List.append_nil, ht.2, h.1, bytesOf_cons, List.append_assoc]
  obtain ⟨zs, e3, e4⟩ := uniq _ _ _ _ (read_fine h) (flat_fine ht.1) (by
    unfold flat; rw [List.length_cons, List.length_cons, flatMap_len, flatMap_len]; omega) e2
  refine ⟨ec.symm, zs, ?_, by simpa using e4, fun x hx => flat_fine ht.1 x (by rw [e3]; simp [hx])⟩
  unfold flat at e3
  exact (List.cons.inj e3).2

theorem read_bad {s : ByteArray} {count : Int} {Q : List Rg} {p : Nat} (h : ReadTo s count Q p) (hl : (Q.length : Int) < count)
    (hb : ∀ ys t, ys.length = 5 → (∀ y ∈ ys, Fine y) → D s p ≠ bytesOf ys ++ t) : ∀ R, ¬ TabS s R := by
  intro R ht
  obtain ⟨ec, zs, e1, e2, hf⟩ := tab_rest h ht (by omega)
  have hz : 5 ≤ zs.length := by
    have := congrArg List.length e1
    rw [List.length_append, flatMap_len, flatMap_len] at this; omega
  refine hb (zs.take 5) (bytesOf (zs.drop 5)) (by rw [List.length_take]; omega) (fun y hy => hf y (List.mem_of_mem_take hy)) ?_
  rw [e2, ← bytesOf_app, List.take_append_drop]

theorem read_end {s : ByteArray} {count : Int} {Q R : List Rg} {p : Nat} (h : ReadTo s count Q p) (hl : (Q.length : Int) = count) (ht : TabS s R) : R = Q ∧ D s p = [] := by
  obtain ⟨ec, zs, e1, e2, hf⟩ := tab_rest h ht (by omega)
  have hz : zs = [] := by
    have := congrArg List.length e1
    rw [List.length_append, flatMap_len, flatMap_len] at this
    exact List.length_eq_zero_iff.1 (by omega)
  subst hz
  rw [List.append_nil] at e1
  exact ⟨flatMap_inj e1, by rw [e2]; rfl⟩

theorem read_next {s : ByteArray} {count : Int} {Q : List Rg} {p q : Nat} {r : Rg} (h : ReadTo s count Q p) (hr : ∀ x ∈ nums r, Fine x) (e : D s p = bytesOf (nums r) ++ D s q) : ReadTo s count (Q ++ [r]) q := by
  refine ⟨?_, ?_, h.2.2⟩
  · rw [h.1, e, List.flatMap_append, bytesOf_app, List.append_assoc]; simp
  · intro x hx
    rw [List.mem_append, List.mem_singleton] at hx
    rcases hx with hx | rfl
    · exact h.2.1 x hx
    · exact hr

theorem read_tab {s : ByteArray} {count : Int} {Q : List Rg} {p : Nat} (h : ReadTo s count Q p) (hl : (Q.length : Int) = count) (hp : D s p = []) (ht : isTab Q = true) : TabS s Q := by
  refine ⟨ht, ?_⟩
  rw [h.1, hp, List.append_nil, ← hl]
  rfl

end Go.Proofs.YtoepcplbpochpaaDoor
