/-
  Plain mathematics: what is read is what was written, and in one way alone. No Go here.
-/
import Derived.Test.YtoepcplbpochpaaDoorMathThree
namespace Go.Proofs.YtoepcplbpochpaaDoor

/-- Numbers that can be written. -/
def Fine (x : Int) : Prop := 0 ≤ x ∧ x ≤ 2097151

theorem getL_sound : ∀ (l : List UInt8) (x : Int) (j : Nat), getL l = some (x, j) → Fine x ∧ l = encB x ++ l.drop j ∧ j = (encB x).length := by
  intro l x j h
  cases l with
  | nil => rw [getL_nil] at h; cases h
  | cons a r =>
    have ba := byte_lt a
    rw [getL_cons] at h
    by_cases ha : (a.toNat : Int) < 128
    · rw [if_pos ha] at h
      obtain ⟨rfl, rfl⟩ := Prod.mk.inj (Option.some.inj h)
      have e : encB (a.toNat : Int) = [a] := (test1_iff a _ (by omega)).2 ha
      rw [e]; exact ⟨⟨by omega, by omega⟩, rfl, rfl⟩
    rw [if_neg ha] at h
    cases r with
    | nil => rw [get2_nil] at h; cases h
    | cons b r =>
      have bb := byte_lt b
      rw [get2_cons] at h
      by_cases hb : (b.toNat : Int) < 128
      · rw [if_pos hb] at h
        by_cases hb0 : (b.toNat : Int) = 0
        · rw [if_pos hb0] at h; cases h
        rw [if_neg hb0] at h
        obtain ⟨rfl, rfl⟩ := Prod.mk.inj (Option.some.inj h)
        have e : encB ((a.toNat : Int) % 128 + (b.toNat : Int) * 128) = [a, b] := (test2_iff a b _ (by omega)).2 ⟨by omega, hb, hb0⟩
        rw [e]; exact ⟨⟨by omega, by omega⟩, rfl, rfl⟩
      rw [if_neg hb] at h
      cases r with
      | nil => rw [get3_nil] at h; cases h
      | cons c r =>
        have bc := byte_lt c
        rw [get3_cons] at h
        by_cases hc : (c.toNat : Int) < 128
        · rw [if_pos hc] at h
          by_cases hc0 : (c.toNat : Int) = 0
          · rw [if_pos hc0] at h; cases h
          rw [if_neg hc0] at h
          obtain ⟨rfl, rfl⟩ := Prod.mk.inj (Option.some.inj h)
          have e : encB ((a.toNat : Int) % 128 + (b.toNat : Int) % 128 * 128 + (c.toNat : Int) * 16384) = [a, b, c] := (test3_iff a b c _ (by omega)).2 ⟨by omega, by omega, hc, hc0⟩
          rw [e]; exact ⟨⟨by omega, by omega⟩, rfl, rfl⟩
        rw [if_neg hc] at h; cases h

/-- Numbers, one behind the other, as bytes. -/
def bytesOf (l : List Int) : List UInt8 := l.flatMap encB
theorem bytesOf_nil : bytesOf [] = [] := rfl
theorem bytesOf_cons (x : Int) (l : List Int) : bytesOf (x :: l) = encB x ++ bytesOf l := rfl
theorem bytesOf_app (l m : List Int) : bytesOf (l ++ m) = bytesOf l ++ bytesOf m := List.flatMap_append

theorem getL_enc {x : Int} (h : Fine x) (r : List UInt8) : getL (encB x ++ r) = some (x, (encB x).length) := by
  rw [get_enc h.1 h.2]; unfold encB; rw [List.length_map]

/-- One reading alone. -/
theorem uniq : ∀ (xs ys : List Int) (r t : List UInt8), (∀ x ∈ xs, Fine x) → (∀ y ∈ ys, Fine y) → xs.length ≤ ys.length → bytesOf xs ++ r = bytesOf ys ++ t →
    ∃ zs, ys = xs ++ zs ∧ r = bytesOf zs ++ t
  | [], ys, r, t, _, _, _, h => ⟨ys, rfl, h⟩
  | x :: xs, [], _, _, _, _, hl, _ => by simp at hl
  | x :: xs, y :: ys, r, t, hx, hy, hl, h => by
    rw [bytesOf_cons, bytesOf_cons, List.append_assoc, List.append_assoc] at h
    have h1 := getL_enc (hx x (by simp)) (bytesOf xs ++ r)
    rw [h, getL_enc (hy y (by simp))] at h1
    have e : y = x := (Prod.mk.inj (Option.some.inj h1)).1
    subst e
    have h2 := List.append_cancel_left h
    obtain ⟨zs, rfl, e2⟩ := uniq xs ys r t (fun x h => hx x (by simp [h])) (fun x h => hy x (by simp [h])) (by simpa using hl) h2
    exact ⟨zs, rfl, e2⟩

/-- What is left behind so many numbers begins with a number, if more numbers were written. -/
theorem none_short {xs ys : List Int} {r t : List UInt8} (hx : ∀ x ∈ xs, Fine x) (hy : ∀ y ∈ ys, Fine y) (hl : xs.length < ys.length) (h : bytesOf xs ++ r = bytesOf ys ++ t) (hn : getL r = none) : False := by
  obtain ⟨zs, rfl, rfl⟩ := uniq xs ys r t hx hy (by omega) h
  match zs with
  | [] => simp at hl
  | z :: zs =>
    rw [bytesOf_cons, List.append_assoc, getL_enc (hy z (by simp))] at hn
    cases hn

theorem bytesOf_inj {xs ys : List Int} (hx : ∀ x ∈ xs, Fine x) (hy : ∀ y ∈ ys, Fine y) (h : bytesOf xs = bytesOf ys) : xs = ys := by
  by_cases hl : xs.length ≤ ys.length
  · obtain ⟨zs, rfl, e⟩ := uniq xs ys [] [] hx hy hl (by simpa using h)
    match zs with
    | [] => simp
    | z :: zs =>
      have := getL_enc (hy z (by simp)) (bytesOf zs)
      rw [← bytesOf_cons] at this
      simp only [List.append_nil] at e
      rw [← e] at this; cases this
  · obtain ⟨zs, rfl, e⟩ := uniq ys xs [] [] hy hx (by omega) (by simpa using h.symm)
    match zs with
    | [] => simp
    | z :: zs =>
      have := getL_enc (hx z (by simp)) (bytesOf zs)
      rw [← bytesOf_cons] at this
      simp only [List.append_nil] at e
      rw [← e] at this; cases this
end Go.Proofs.YtoepcplbpochpaaDoor
