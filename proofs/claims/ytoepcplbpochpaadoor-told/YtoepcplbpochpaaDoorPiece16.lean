/-
  What Get and getRange answer at a place of a string, by what stands there; and what tables a string can hold.
-/
import Derived.Test.YtoepcplbpochpaaDoorPiece15

namespace Go.Proofs.YtoepcplbpochpaaDoor
open Go.RowKit

/-- What stands in a string from a place on. -/
def D (s : ByteArray) (p : Nat) : List UInt8 := s.data.toList.drop p

theorem D_zero (s : ByteArray) : D s 0 = s.data.toList := rfl
theorem D_len (s : ByteArray) (p : Nat) : (D s p).length = s.size - p := by unfold D; rw [List.length_drop, ← Lib.size_eq]

theorem gives_or (s : ByteArray) (p : Nat) (hs : s.size ≤ maxLen) (hp : p ≤ s.size) :
    (∃ (x : Int) (q : Nat), Fine x ∧ D s p = encB x ++ D s q ∧ q ≤ s.size ∧ Gives s p x q) ∨ (getL (D s p) = none ∧ Fails s p) := by
  have hi : (p : Int) ≤ 9223372036854775807 := by unfold maxLen at hs; omega
  have G := fun w => get_any s (p : Int) w hs hi
  cases h : getL (D s p) with
  | none =>
    refine .inr ⟨rfl, fun w => ?_⟩
    have := G w
    rw [getR_none (k := p) h] at this
    exact this
  | some xj =>
    obtain ⟨x, j⟩ := xj
    obtain ⟨hf, hl, hj⟩ := getL_sound _ _ _ h
    have hq : p + j ≤ s.size := by
      have := congrArg List.length hl
      rw [List.length_append, List.length_drop, D_len, ← hj] at this
      omega
    refine .inl ⟨x, p + j, hf, ?_, hq, fun w => ?_⟩
    · rw [hl]; congr 1; unfold D; rw [List.drop_drop]
    · have := G w
      rw [getR_some (k := p) h] at this
      exact this

/-- A range as an aggregate. -/
def aggOf (r : Rg) : Value := .agg #[.int .i64 r.v, .int .i64 r.f, .int .i64 r.t, .int .i64 r.k, .int .i64 r.a]

/-- getRange at a place: a range and the place behind it; or no five numbers stand there. -/
theorem range_or (s : ByteArray) (p : Nat) (hs : s.size ≤ maxLen) (hp : p ≤ s.size) :
    (∃ (r : Rg) (q : Nat), (∀ x ∈ nums r, Fine x) ∧ D s p = bytesOf (nums r) ++ D s q ∧ q ≤ s.size ∧
      ∀ w, Calls Tryd.prog 89 #[.string s, .int .i64 p] w fun e w' => e = .returned (.tuple #[.agg #[.int .i64 r.v, .int .i64 r.f, .int .i64 r.t, .int .i64 r.k, .int .i64 r.a], .int .i64 q, .int .i64 0]) ∧ Below w.heap.size w w') ∨
    ((∀ ys t, ys.length = 5 → (∀ y ∈ ys, Fine y) → D s p ≠ bytesOf ys ++ t) ∧
      ∀ w, Calls Tryd.prog 89 #[.string s, .int .i64 p] w fun e w' => e = .returned (.tuple #[.agg #[.int .i64 0, .int .i64 0, .int .i64 0, .int .i64 0, .int .i64 0], .int .i64 0, .int .i64 14]) ∧ Below w.heap.size w w') := by
  rcases gives_or s p hs hp with ⟨x0, q1, f0, e0, l1, g0⟩ | ⟨n, b⟩
  case inr => exact .inr ⟨fun ys t hl hy h => none_short (xs := []) (by simp) hy (by simp; omega) h n, fun w => getRange_bad0 s _ w b⟩
  rcases gives_or s q1 hs l1 with ⟨x1, q2, f1, e1, l2, g1⟩ | ⟨n, b⟩
  case inr => exact .inr ⟨fun ys t hl hy h => none_short (xs := [x0]) (r := D s q1) (by simpa using f0) hy (by simp; omega) (by rw [← h, e0]; simp [bytesOf_cons, bytesOf_nil]) n, fun w => getRange_bad1 s _ _ _ w g0 b⟩
  rcases gives_or s q2 hs l2 with ⟨x2, q3, f2, e2, l3, g2⟩ | ⟨n, b⟩
  case inr => exact .inr ⟨fun ys t hl hy h => none_short (xs := [x0, x1]) (r := D s q2) (by simpa using ⟨f0, f1⟩) hy (by simp; omega) (by rw [← h, e0, e1]; simp [bytesOf_cons, bytesOf_nil]) n, fun w => getRange_bad2 s _ _ _ _ _ w g0 g1 b⟩
  rcases gives_or s q3 hs l3 with ⟨x3, q4, f3, e3, l4, g3⟩ | ⟨n, b⟩
  case inr => exact .inr ⟨fun ys t hl hy h => none_short (xs := [x0, x1, x2]) (r := D s q3) (by simpa using ⟨f0, f1, f2⟩) hy (by simp; omega) (by rw [← h, e0, e1, e2]; simp [bytesOf_cons, bytesOf_nil]) n, fun w => getRange_bad3 s _ _ _ _ _ _ _ w g0 g1 g2 b⟩
  rcases gives_or s q4 hs l4 with ⟨x4, q5, f4, e4, l5, g4⟩ | ⟨n, b⟩
  case inr => exact .inr ⟨fun ys t hl hy h => none_short (xs := [x0, x1, x2, x3]) (r := D s q4) (by simpa using ⟨f0, f1, f2, f3⟩) hy (by simp; omega) (by rw [← h, e0, e1, e2, e3]; simp [bytesOf_cons, bytesOf_nil]) n, fun w => getRange_bad4 s _ _ _ _ _ _ _ _ _ w g0 g1 g2 g3 b⟩
  have en : nums ⟨x0, x1, x1 + x2, x3, x4⟩ = [x0, x1, x2, x3, x4] := by unfold nums; simp; omega
  refine .inl ⟨⟨x0, x1, x1 + x2, x3, x4⟩, q5, ?_, ?_, l5, fun w => getRange_ok s _ _ _ _ _ _ _ _ _ _ _ w g0 g1 g2 g3 g4 f1 f2⟩
  · rw [en]; simpa using ⟨f0, f1, f2, f3, f4⟩
  · rw [en, e0, e1, e2, e3, e4]; simp [bytesOf_cons, bytesOf_nil]

/-! ### Which table a string holds -/
def TabS (s : ByteArray) (R : List Rg) : Prop := isTab R = true ∧ bytesOf (flat R) = s.data.toList

theorem flat_fine {R : List Rg} (h : isTab R = true) : ∀ x ∈ flat R, Fine x := by
  intro x hx
  unfold flat at hx
  rw [List.mem_cons, List.mem_flatMap] at hx
  rcases hx with rfl | ⟨r, hr, hx⟩
  · have := isTab_len h; exact ⟨by omega, by omega⟩
  · obtain ⟨k, hk, rfl⟩ := List.mem_iff_getElem.1 hr
    have e : R[k] = rg R k := by unfold rg; rw [List.getD_eq_getElem?_getD, List.getElem?_eq_getElem hk]; rfl
    rw [e] at hx
    have ok := nums_ok (isTab_rg h hk)
    obtain ⟨i, hi, rfl⟩ := List.mem_iff_getElem.1 hx
    have := ok i hi
    unfold nth at this
    rw [List.getD_eq_getElem?_getD, List.getElem?_eq_getElem hi] at this
    have h2 : 0 ≤ (nums (rg R k))[i] ∧ (nums (rg R k))[i] ≤ 65535 := this
    exact ⟨h2.1, by omega⟩

theorem nums_inj {r q : Rg} (h : nums r = nums q) : r = q := by
  unfold nums at h
  simp only [List.cons.injEq, and_true] at h
  obtain ⟨a, b, c, d, e⟩ := h
  obtain ⟨v, f, t, k, x⟩ := r
  obtain ⟨v2, f2, t2, k2, x2⟩ := q
  simp only [Rg.mk.injEq] at *
  omega

theorem flatMap_inj : ∀ {P Q : List Rg}, P.flatMap nums = Q.flatMap nums → P = Q
  | [], [], _ => rfl
  | [], q :: Q, h => by have := congrArg List.length h; rw [flatMap_len, flatMap_len] at this; simp at this
  | p :: P, [], h => by have := congrArg List.length h; rw [flatMap_len, flatMap_len] at this; simp at this
  | p :: P, q :: Q, h => by
    rw [List.flatMap_cons, List.flatMap_cons] at h
    obtain ⟨h1, h2⟩ := List.append_inj h rfl
    rw [nums_inj h1, flatMap_inj h2]

theorem tab_uniq {s : ByteArray} {P Q : List Rg} (hp : TabS s P) (hq : TabS s Q) : P = Q := by
  have := bytesOf_inj (flat_fine hp.1) (flat_fine hq.1) (hp.2.trans hq.2.symm)
  unfold flat at this
  exact flatMap_inj (List.cons.inj this).2

/-- A table begins with its length. -/
theorem tab_head {s : ByteArray} {R : List Rg} (h : TabS s R) : getL s.data.toList = some ((R.length : Int), (encB (R.length : Int)).length) := by
  rw [← h.2]; unfold flat; rw [bytesOf_cons]
  exact getL_enc (flat_fine h.1 _ (by simp [flat])) _

/-- So far as it is read: count, then the ranges Q, then what is left from p on. -/
def ReadTo (s : ByteArray) (count : Int) (Q : List Rg) (p : Nat) : Prop :=
  s.data.toList = encB count ++ (bytesOf (Q.flatMap nums) ++ D s p) ∧ (∀ r ∈ Q, ∀ x ∈ nums r, Fine x) ∧ Fine count

theorem read_fine {s : ByteArray} {count : Int} {Q : List Rg} {p : Nat} (h : ReadTo s count Q p) : ∀ x ∈ count :: Q.flatMap nums, Fine x := by
  intro x hx
  rw [List.mem_cons, List.mem_flatMap] at hx
  rcases hx with rfl | ⟨r, hr, hx⟩
  · exact h.2.2
  · exact h.2.1 r hr x hx

theorem tab_rest {s : ByteArray} {count : Int} {Q R : List Rg} {p : Nat} (h : ReadTo s count Q p) (ht : TabS s R) (hl : (Q.length : Int) ≤ count) :
    (R.length : Int) = count ∧ ∃ zs, R.flatMap nums = Q.flatMap nums ++ zs ∧ D s p = bytesOf zs ∧ ∀ x ∈ zs, Fine x := by
  have e1 := tab_head ht
  rw [h.1, getL_enc h.2.2] at e1
  have ec : count = (R.length : Int) := (Prod.mk.inj (Option.some.inj e1)).1
  have e2 : bytesOf (count :: Q.flatMap nums) ++ D s p = bytesOf (flat R) ++ [] := by
    rw [List.append_nil, ht.2, h.1, bytesOf_cons, List.append_assoc]
  obtain ⟨zs, e3, e4⟩ := uniq _ _ _ _ (read_fine h) (flat_fine ht.1) (by
    unfold flat; rw [List.length_cons, List.length_cons, flatMap_len, flatMap_len]; omega) e2
  refine ⟨ec.symm, zs, ?_, by simpa using e4, fun x hx => flat_fine ht.1 x (by rw [e3]; simp [hx])⟩
  unfold flat at e3
  exact (List.cons.inj e3).2

theorem read_bad {s : ByteArray} {count : Int} {Q : List Rg} {p : Nat} (h : ReadTo s count Q p) (hl : (Q.length : Int) < count)
    (hb : ∀ ys t, ys.length = 5 → (∀ y ∈ ys, Fine y) → D s p ≠ bytesOf ys ++ t) : ∀ R, ¬ TabS s R := by
  intro R ht
  obtain ⟨ec, zs, e1, e2, hf⟩ := tab_rest h ht (by omega)
  have hz : 5 ≤ zs.length := by
    have := congrArg List.length e1
    rw [List.length_append, flatMap_len, flatMap_len] at this; omega
  refine hb (zs.take 5) (bytesOf (zs.drop 5)) (by rw [List.length_take]; omega) (fun y hy => hf y (List.mem_of_mem_take hy)) ?_
  rw [e2, ← bytesOf_app, List.take_append_drop]

theorem read_end {s : ByteArray} {count : Int} {Q R : List Rg} {p : Nat} (h : ReadTo s count Q p) (hl : (Q.length : Int) = count) (ht : TabS s R) : R = Q ∧ D s p = [] := by
  obtain ⟨ec, zs, e1, e2, hf⟩ := tab_rest h ht (by omega)
  have hz : zs = [] := by
    have := congrArg List.length e1
    rw [List.length_append, flatMap_len, flatMap_len] at this
    exact List.length_eq_zero_iff.1 (by omega)
  subst hz
  rw [List.append_nil] at e1
  exact ⟨flatMap_inj e1, by rw [e2]; rfl⟩

theorem read_next {s : ByteArray} {count : Int} {Q : List Rg} {p q : Nat} {r : Rg} (h : ReadTo s count Q p) (hr : ∀ x ∈ nums r, Fine x) (e : D s p = bytesOf (nums r) ++ D s q) : ReadTo s count (Q ++ [r]) q := by
  refine ⟨?_, ?_, h.2.2⟩
  · rw [h.1, e, List.flatMap_append, bytesOf_app, List.append_assoc]; simp
  · intro x hx
    rw [List.mem_append, List.mem_singleton] at hx
    rcases hx with hx | rfl
    · exact h.2.1 x hx
    · exact hr

theorem read_tab {s : ByteArray} {count : Int} {Q : List Rg} {p : Nat} (h : ReadTo s count Q p) (hl : (Q.length : Int) = count) (hp : D s p = []) (ht : isTab Q = true) : TabS s Q := by
  refine ⟨ht, ?_⟩
  rw [h.1, hp, List.append_nil, ← hl]
  rfl

end Go.Proofs.YtoepcplbpochpaaDoor

/-
  What lodgeref.IsTable answers, of every list of ranges: just what leb.isTable answers, though it looks at every pair.
-/
namespace Go.Proofs.YtoepcplbpochpaaDoor
open Go.RowKit

/-! ### The plain mathematics: neighbours decide of all pairs -/
def before (x y : Rg) : Prop := x.v < y.v ∨ x.v = y.v ∧ x.t ≤ y.f

theorem before_of_follows {x y : Rg} (h : follows x y = true) : before x y := by
  unfold follows at h; unfold before
  by_cases a : x.v = y.v
  · by_cases b : x.t = y.f
    · omega
    · simp [a, b] at h; omega
  · simp [a] at h; omega
theorem before_trans {x y z : Rg} (h : before x y) (h' : before y z) (hy : y.f < y.t) : before x z := by
  unfold before at *; omega
theorem behind_true (x y : Rg) : behind x y true = follows x y := by
  unfold behind follows
  by_cases a : x.v = y.v
  · by_cases b : x.t = y.f
    · simp [a, b]
    · by_cases c : y.f < x.t
      · simp [a, b, c]; omega
      · have : x.t < y.f := by omega
        simp [a, b, c, this]
  · simp [a]
theorem behind_false {x y : Rg} (h : before x y) : behind x y false = true := by
  unfold behind; unfold before at h
  by_cases a : x.v = y.v
  · simp [a]; omega
  · simp [a]; omega

theorem isRg_lt {r : Rg} (h : isRg r = true) : r.f < r.t := by unfold isRg at h; rw [decide_eq_true_eq] at h; omega

theorem tab_at {R : List Rg} {n k : Nat} (h : tabTo R n = true) (hk : k < n) : isRg (rg R k) = true ∧ (k = 0 ∨ follows (rg R (k - 1)) (rg R k) = true) := by
  unfold tabTo at h; rw [List.all_eq_true] at h
  have := h k (by rw [List.mem_range]; exact hk)
  simpa using this

theorem tab_before {R : List Rg} {n : Nat} (h : tabTo R n = true) : ∀ k, k < n → ∀ j, j < k → before (rg R j) (rg R k) := by
  intro k
  induction k with
  | zero => intro _ j hj; omega
  | succ k ih =>
    intro hk j hj
    have f := before_of_follows ((tab_at h hk).2.resolve_left (by omega))
    rw [Nat.add_sub_cancel] at f
    by_cases e : j = k
    · subst e; exact f
    · exact before_trans (ih (by omega) j (by omega)) f (isRg_lt (tab_at h (by omega : k < n)).1)

/-- What a true table says of each pair. -/
theorem tab_behind {R : List Rg} {n k j : Nat} (h : tabTo R n = true) (hk : k < n) (hj : j < k) : behind (rg R j) (rg R k) (decide ((j : Int) = (k : Int) - 1)) = true := by
  by_cases e : (j : Int) = (k : Int) - 1
  · rw [decide_eq_true e, behind_true]
    have := (tab_at h hk).2.resolve_left (by omega)
    rw [show k - 1 = j by omega] at this; exact this
  · rw [decide_eq_false e]; exact behind_false (tab_before h k hk j hj)

/-- Pairs behind one another. -/
def pairsTo (R : List Rg) (k j : Nat) : Prop := ∀ i, i < j → behind (rg R i) (rg R k) (decide ((i : Int) = (k : Int) - 1)) = true

theorem tab_next {R : List Rg} {k : Nat} (h : tabTo R k = true) (hr : isRg (rg R k) = true) (hp : pairsTo R k k) : tabTo R (k + 1) = true := by
  rw [tabTo_succ, h, hr]
  by_cases h0 : k = 0
  · simp [h0]
  · have := hp (k - 1) (by omega)
    rw [decide_eq_true (by omega), behind_true] at this
    simp [this]

set_option maxRecDepth 100000 in
set_option maxHeartbeats 1000000 in
theorem refTable_some (R : List Rg) (b off cap : Nat) (w : World) (hL : Lie w b off R) (hb : b < w.heap.size) (hlen : R.length ≤ 9223372036854775807) :
    Calls Tryd.prog 118 #[.slice (some ⟨b, off, none⟩) R.length cap] w fun e w' => e = .returned (.bool (isTab R)) ∧ Below w.heap.size w w' := by
  by_cases h200 : R.length ≤ 200
  case neg =>
    have e : isTab R = false := by simp [isTab, h200]
    rw [e]
    go_enter Tryd.func118, Tryd.ntmps118
    go_wp2
    go_ret
    exact ⟨rfl, Below.refl _ _⟩
  have e : isTab R = tabTo R R.length := by simp [isTab, h200]
  rw [e]
  clear e
  go_enter Tryd.func118, Tryd.ntmps118
  go_wp2
  go_loopw [3, 4, 5] (fun i _ _ wr => ∃ k : Nat, k ≤ R.length ∧ i = .int .i64 k ∧ tabTo R k = true ∧ Below w.heap.size w wr) (fun i _ _ _ => R.length - (intOf i).toNat)
  case atStart => exact ⟨0, Nat.zero_le _, rfl, rfl, Below.refl _ _⟩
  case round =>
    obtain ⟨k, hk, rfl, htab, hbel⟩ := hrel
    have HT := hide htab
    clear htab
    by_cases hlt : k < R.length
    case neg =>
      have : k = R.length := by omega
      subst this
      go_wp2
      go_ret
      exact ⟨ret_bool (unhide HT).symm, hbel⟩
    have C1 := hide (fun w => one_any (rg R k) w)
    have hc := hide ((hL k hlt).below hbel hb)
    cases hr : isRg (rg R k)
    · have hf : tabTo R R.length = false := by
        cases h : tabTo R R.length
        · rfl
        · have := tabTo_mono R (show k + 1 ≤ R.length by omega) h
          rw [tabTo_succ, hr] at this; simp at this
      have HF := hide hf
      rw [hr] at C1
      obtain ⟨c0, c1, c2, c3, c4⟩ := unhide hc
      clear hr hf hc
      go_wp2_with fail
      refine (unhide C1 _).mono ?_
      rintro e w1 ⟨rfl, hb1⟩
      go_wp2
      go_ret
      exact ⟨ret_bool (unhide HF).symm, hbel.trans (hb1.mono hbel.size)⟩
    · rw [hr] at C1
      have HR := hide hr
      obtain ⟨c0, c1, c2, c3, c4⟩ := unhide hc
      clear hr hc
      go_wp2_with fail
      refine (unhide C1 _).mono ?_
      rintro e w1 ⟨rfl, hb1⟩
      have hb2 := hbel.trans (hb1.mono hbel.size)
      clear c0 c1 c2 c3 c4 hb1 hbel
      go_wp2
      go_loopw [4, 5] (fun _ i wr => ∃ j : Nat, j ≤ k ∧ i = .int .i64 j ∧ pairsTo R k j ∧ Below w.heap.size w wr) (fun _ i _ => k - (intOf i).toNat)
      case atStart => exact ⟨0, Nat.zero_le _, rfl, fun i hi => absurd hi (by omega), hb2⟩
      case round =>
        obtain ⟨j, hj, rfl, hp, hbel⟩ := hrel
        have HP := hide hp
        clear hp
        by_cases hjk : j < k
        case neg =>
          have hjk' : j = k := by omega
          have hp : pairsTo R k k := by have := unhide HP; rw [hjk'] at this; exact this
          have hn : tabTo R (k + 1) = true := tab_next (unhide HT) (unhide HR) hp
          clear hp hjk'
          have HN := hide hn
          clear hn
          go_wp2
          go_roundw
          case rel => exact ⟨k + 1, by omega, by go_num, unhide HN, hbel⟩
          case measure => simp [intOf]; omega
        have C2 := hide (fun w => pair_any (rg R j) (rg R k) ((j : Int) == (k : Int) - 1) w)
        have i1 : (j : Int) < (R.length : Int) := by omega
        have i3 : (k : Int) < (R.length : Int) := by omega
        have i5 : IntKind.i64.wrap ((k : Int) - 1) = (k : Int) - 1 := by rw [IntKind.wrap_i64]; omega
        obtain ⟨d0, d1, d2, d3, d4⟩ := (hL k hlt).below hbel hb
        obtain ⟨p0, p1, p2, p3, p4⟩ := (hL j (by omega)).below hbel hb
        cases hf : behind (rg R j) (rg R k) ((j : Int) == (k : Int) - 1)
        · rw [hf] at C2
          have hn : tabTo R R.length = false := by
            cases h : tabTo R R.length
            · rfl
            · have := tab_behind h hlt hjk
              exact absurd (hf.symm.trans this) (by decide)
          have HN := hide hn
          clear hn hf
          go_wp2_with fail
          go_region_held3 (fun w' => (w'.cell? ⟨b, off + k * 5, none⟩ = some (.int .i64 (rg R k).v) ∧ w'.cell? ⟨b, off + k * 5 + 1, none⟩ = some (.int .i64 (rg R k).f) ∧ w'.cell? ⟨b, off + k * 5 + 2, none⟩ = some (.int .i64 (rg R k).t) ∧ w'.cell? ⟨b, off + k * 5 + 3, none⟩ = some (.int .i64 (rg R k).k) ∧ w'.cell? ⟨b, off + k * 5 + 4, none⟩ = some (.int .i64 (rg R k).a)) ∧
            w'.cell? ⟨b, off + j * 5, none⟩ = some (.int .i64 (rg R j).v) ∧ w'.cell? ⟨b, off + j * 5 + 1, none⟩ = some (.int .i64 (rg R j).f) ∧ w'.cell? ⟨b, off + j * 5 + 2, none⟩ = some (.int .i64 (rg R j).t) ∧ w'.cell? ⟨b, off + j * 5 + 3, none⟩ = some (.int .i64 (rg R j).k) ∧ w'.cell? ⟨b, off + j * 5 + 4, none⟩ = some (.int .i64 (rg R j).a)) (simp [*])
            (first | (go_at_call 134; refine (unhide C2 _).mono ?_; rintro e w2 ⟨rfl, hb3⟩; have hb4 := (hbel.drew).trans (hb3.mono (by simpa using hbel.size)); obtain ⟨q0, q1, q2, q3, q4⟩ := (hL k hlt).below hb4 hb; obtain ⟨s0, s1, s2, s3, s4⟩ := (hL j (by omega)).below hb4 hb))
          go_wp2
          go_ret
          exact ⟨ret_bool (unhide HN).symm, by assumption⟩
        · rw [hf] at C2
          have hp : pairsTo R k (j + 1) := fun i hi => by
            by_cases e : i = j
            · subst e; exact hf
            · exact unhide HP i (by omega)
          have HN := hide hp
          clear hp hf
          go_wp2_with fail
          go_region_held3 (fun w' => (w'.cell? ⟨b, off + k * 5, none⟩ = some (.int .i64 (rg R k).v) ∧ w'.cell? ⟨b, off + k * 5 + 1, none⟩ = some (.int .i64 (rg R k).f) ∧ w'.cell? ⟨b, off + k * 5 + 2, none⟩ = some (.int .i64 (rg R k).t) ∧ w'.cell? ⟨b, off + k * 5 + 3, none⟩ = some (.int .i64 (rg R k).k) ∧ w'.cell? ⟨b, off + k * 5 + 4, none⟩ = some (.int .i64 (rg R k).a)) ∧
            w'.cell? ⟨b, off + j * 5, none⟩ = some (.int .i64 (rg R j).v) ∧ w'.cell? ⟨b, off + j * 5 + 1, none⟩ = some (.int .i64 (rg R j).f) ∧ w'.cell? ⟨b, off + j * 5 + 2, none⟩ = some (.int .i64 (rg R j).t) ∧ w'.cell? ⟨b, off + j * 5 + 3, none⟩ = some (.int .i64 (rg R j).k) ∧ w'.cell? ⟨b, off + j * 5 + 4, none⟩ = some (.int .i64 (rg R j).a)) (simp [*])
            (first | (go_at_call 134; refine (unhide C2 _).mono ?_; rintro e w2 ⟨rfl, hb3⟩; have hb4 := (hbel.drew).trans (hb3.mono (by simpa using hbel.size)); obtain ⟨q0, q1, q2, q3, q4⟩ := (hL k hlt).below hb4 hb; obtain ⟨s0, s1, s2, s3, s4⟩ := (hL j (by omega)).below hb4 hb))
          go_wp2
          go_roundw
          case rel => exact ⟨j + 1, by omega, by go_num, unhide HN, by assumption⟩
          case measure => simp [intOf]; omega

theorem refTable_nil (ao : Option Addr) (cap : Nat) (w : World) :
    Calls Tryd.prog 118 #[.slice ao 0 cap] w fun e w' => e = .returned (.bool (isTab [])) ∧ Below w.heap.size w w' := by
  go_enter Tryd.func118, Tryd.ntmps118
  go_wp2
  refine wp_loop_rounds 1 ?_; rw [rounds_succ]
  go_wp2
  go_ret
  exact ⟨rfl, Below.refl _ _⟩

theorem refTable_any (R : List Rg) (ao : Option Addr) (cap : Nat) (w : World) (hL : Held w ao R) (hlen : R.length ≤ 9223372036854775807) :
    Calls Tryd.prog 118 #[.slice ao R.length cap] w fun e w' => e = .returned (.bool (isTab R)) ∧ Below w.heap.size w w' := by
  rcases hL with rfl | ⟨b, off, rfl, hb, hL⟩
  · exact refTable_nil ao cap w
  · exact refTable_some R b off cap w hL hb hlen
end Go.Proofs.YtoepcplbpochpaaDoor

/-
  What lodgeref.Encode answers, of every list of ranges: just what leb.Encode answers.
-/
namespace Go.Proofs.YtoepcplbpochpaaDoor
open Go.RowKit

theorem Tryd.intInfo : (Tryd.prog.info? 3).map (fun i => (i.zero, i.size, i.bytes)) = some (some (.int .i64 0), 1, 8) := by kernel_rfl

/-- A slice that was just laid out is owned. -/
theorem own_new (w : World) (base : Nat) (e : TypeId) (xs : List Value) (hb : base ≤ w.heap.size) (hl : xs.length ≤ maxLen) :
    (w.alloc (.cells xs.toArray e)).ownsRow base e 1 (.slice (some ⟨w.heap.size, 0, none⟩) xs.length xs.length) xs.length xs := by
  refine ⟨by simp, .inr ⟨w.heap.size, xs.length, xs.toArray, rfl, hb, ?_, Nat.le_refl _, hl, by simp, by simp⟩⟩
  exact heap_alloc_new _ _

theorem cells_new (w : World) (n : Nat) (hn : n = w.heap.size) (e : TypeId) (xs : List Value) :
    ∀ j u, xs[j]? = some u → (w.alloc (.cells xs.toArray e)).cell? ((⟨n, 0, none⟩ : Addr).add j) = some u := by
  intro j u hj
  have : (⟨n, 0, none⟩ : Addr).add j = ⟨n, j, none⟩ := by unfold Addr.add; split <;> simp_all
  rw [this, World.cell?_alloc_at (hn := hn)]
  simpa using hj

theorem own_lt {w : World} {base n cap g : Nat} {e : TypeId} {xs : List Value} (h : w.ownsRow base e 1 (.slice (some ⟨g, 0, none⟩) n cap) n xs) : g < w.heap.size := by
  rcases h.2 with ⟨h, _⟩ | ⟨g', cap', cur, h, _, hh, _⟩
  · simp at h
  · simp only [Value.slice.injEq, Option.some.injEq, Addr.mk.injEq, and_true, true_and] at h
    obtain ⟨rfl, rfl⟩ := h
    exact (Array.getElem?_eq_some_iff.1 hh).1

theorem flat_ok {R : List Rg} (h : isTab R = true) : ∀ x ∈ flat R, 0 ≤ x ∧ x ≤ 65535 := by
  intro x hx
  unfold flat at hx
  rw [List.mem_cons, List.mem_flatMap] at hx
  rcases hx with rfl | ⟨r, hr, hx⟩
  · have := isTab_len h; omega
  · obtain ⟨k, hk, rfl⟩ := List.mem_iff_getElem.1 hr
    have e : R[k] = rg R k := by unfold rg; rw [List.getD_eq_getElem?_getD, List.getElem?_eq_getElem hk]; rfl
    rw [e] at hx
    have ok := nums_ok (isTab_rg h hk)
    obtain ⟨i, hi, rfl⟩ := List.mem_iff_getElem.1 hx
    have := ok i hi
    unfold nth at this
    rw [List.getD_eq_getElem?_getD, List.getElem?_eq_getElem hi] at this
    exact this

set_option maxRecDepth 100000 in
set_option maxHeartbeats 1000000 in
theorem refEncode_any (R : List Rg) (ao : Option Addr) (cap : Nat) (w : World) (hH : Held w ao R) (hlen : R.length ≤ 9223372036854775807) :
    Calls Tryd.prog 93 #[.slice ao R.length cap] w fun e w' => e = .returned (encV R) ∧ Below w.heap.size w w' := by
  have T := hide (fun w (h : Held w ao R) => refTable_any R ao cap w h hlen)
  obtain ⟨i0, hi, hz0, hz1, hz2⟩ := info_parts Tryd.intInfo
  cases ht : isTab R
  · rw [encV_no ht]
    rw [ht] at T
    clear ht
    go_enter Tryd.func93, Tryd.ntmps93
    go_wp2_with fail
    refine (unhide T _ hH).mono ?_
    rintro e w1 ⟨rfl, hb1⟩
    go_wp2
    go_ret2
    exact ⟨rfl, hb1⟩
  · rw [encV_yes ht]
    rw [ht] at T
    have HT := hide ht
    have h200 := isTab_len ht
    clear ht
    go_enter Tryd.func93, Tryd.ntmps93
    go_wp2_with fail
    refine (unhide T _ hH).mono ?_
    rintro e w1 ⟨rfl, hb1⟩
    go_wp2_with fail
    go_loopw [5, 6, 7] (fun v i _ wr => ∃ k : Nat, k ≤ R.length ∧ i = .int .i64 k ∧ wr.ownsRow w.heap.size 3 1 v (flatTo R k).length ((flatTo R k).map (Value.int .i64)) ∧ Below w.heap.size w wr) (fun _ i _ _ => R.length - (intOf i).toNat)
    case atStart => exact ⟨0, Nat.zero_le _, rfl, own_new w1 w.heap.size 3 [.int .i64 (R.length : Int)] hb1.size (by show 1 ≤ maxLen; decide), hb1.alloc hb1.size _⟩
    case round =>
      obtain ⟨k, hk, rfl, hown, hbel⟩ := hrel
      have hB := hbel.size
      have hfl := flatTo_len R k
      by_cases hlt : k < R.length
      · have hrg := isTab_rg (unhide HT) hlt
        unfold isRg at hrg
        rw [decide_eq_true_eq] at hrg
        obtain ⟨g1, g2, g3, g4, g5, g6, g7, g8, g9⟩ := hrg
        have HS := hide (flatTo_succ R k hlt)
        obtain ⟨b, off, rfl, hb, hl⟩ : ∃ b off, ao = some ⟨b, off, none⟩ ∧ b < w.heap.size ∧ Lie w b off R := by
          rcases hH with h | h
          · subst h; exact absurd hlt (by simp)
          · exact h
        obtain ⟨c0, c1, c2, c3, c4⟩ := (hl k hlt).below hbel hb
        go_wp2_with (at_builtin; refine wpList_append_own _ rfl _ _ 32 rfl w.heap.size 3 i0 (.int .i64 0) 1 8 Tryd.underlying32 hi hz0 hz1 hz2 rfl (by decide) _ _ _ rfl ((hown.alloc _).alloc _) ⟨wr.heap.size + 1, 0, none⟩ 5 5 [.int .i64 (rg R k).v, .int .i64 (rg R k).f, .int .i64 ((rg R k).t - (rg R k).f), .int .i64 (rg R k).k, .int .i64 (rg R k).a] rfl rfl ?c1 ?c2 ?c3 ?c4 ?c5 ?_)
        case c1 => exact cells_new _ _ (by simp) 3 _
        case c2 => intro u hu; simp only [List.mem_cons, List.not_mem_nil, or_false] at hu; rcases hu with rfl | rfl | rfl | rfl | rfl <;> rfl
        case c3 => unfold maxLen; omega
        case c4 => omega
        case c5 => simp; omega
        intro v' w2 hown' hgrow _
        have hb2 : Below w.heap.size w w2 := ((hbel.alloc hbel.size _).alloc (by simp; omega) _).grown hgrow (by simp; omega) (own_ge hown)
        have hO : w2.ownsRow w.heap.size 3 1 v' (flatTo R (k + 1)).length ((flatTo R (k + 1)).map (Value.int .i64)) := by
          rw [unhide HS, List.length_append, List.map_append]; exact hown'
        clear hgrow hown' hown
        go_wp2
        go_roundw
        case rel => exact ⟨k + 1, by omega, by go_num, hO, hb2⟩
        case measure => simp [intOf]; omega
      · have hk' : k = R.length := by omega
        have e := (show flatTo R k = flat R by rw [hk', flatTo_end])
        rw [e] at hown hfl
        have hl1 : 1 ≤ (flat R).length := by unfold flat; simp
        obtain ⟨g, cap', rfl⟩ : ∃ g cap', u5 = .slice (some ⟨g, 0, none⟩) (flat R).length cap' := by
          rcases hown.2 with ⟨_, h⟩ | ⟨g, cap', cur, h, _⟩
          · omega
          · exact ⟨g, cap', h⟩
        have hW := hide (fun w hb hc => written_any (flat R) g 0 cap' w (by omega) hb hc (fun i hi => by
          have := flat_ok (unhide HT) (flat R)[i] (List.getElem_mem hi)
          unfold nth; rw [List.getD_eq_getElem?_getD, List.getElem?_eq_getElem hi]
          exact ⟨this.1, by have := this.2; simp only [Option.getD_some]; omega⟩))
        have hlt' := own_lt hown
        have hcl : ∀ i, i < (flat R).length → wr.cell? ⟨g, 0 + i, none⟩ = some (.int .i64 (nth (flat R) i)) := fun i hi => by
          rw [Nat.zero_add, hown.cellAt i (by omega)]
          unfold nth; rw [List.getD_eq_getElem?_getD, List.getElem?_map, List.getElem?_eq_getElem hi]; rfl
        have HC := hide hcl
        clear hk' e hown hcl
        go_wp2_with fail
        refine (unhide hW _ hlt' (unhide HC)).mono ?_
        rintro e w2 ⟨rfl, hb2⟩
        go_wp2
        go_ret2
        exact ⟨rfl, hbel.trans (hb2.mono hbel.size)⟩
end Go.Proofs.YtoepcplbpochpaaDoor

/-
  What leb.Decode answers, of every string: the table that it holds, fresh; or that it holds none.
-/
namespace Go.Proofs.YtoepcplbpochpaaDoor
open Go.RowKit

theorem Tryd.info132 : (Tryd.prog.info? 132).map (fun i => (i.zero, i.size, i.bytes)) = some (some (.agg #[.int .i64 0, .int .i64 0, .int .i64 0, .int .i64 0, .int .i64 0]), 5, 40) := by kernel_rfl

/-- The cells of a list of ranges. -/
def cellsOf (R : List Rg) : List Value := R.flatMap Rg.cells
theorem cellsOf_len (R : List Rg) : (cellsOf R).length = R.length * 5 := by
  unfold cellsOf
  induction R with
  | nil => rfl
  | cons r R ih => rw [List.flatMap_cons, List.length_append, ih, List.length_cons]; show 5 + _ = _; omega
theorem cellsOf_snoc (R : List Rg) (r : Rg) : cellsOf (R ++ [r]) = cellsOf R ++ r.cells := by unfold cellsOf; rw [List.flatMap_append]; simp

theorem cellsOf_at : ∀ (R : List Rg) (i : Nat), i < R.length → ∀ j, j < 5 → (cellsOf R)[i * 5 + j]? = (rg R i).cells[j]?
  | [], i, h, _, _ => absurd h (by simp)
  | r :: R, 0, _, j, hj => by
    unfold cellsOf; rw [List.flatMap_cons, Nat.zero_mul, Nat.zero_add, List.getElem?_append_left (by exact hj)]; rfl
  | r :: R, i + 1, h, j, hj => by
    have ih := cellsOf_at R i (by simpa using h) j hj
    unfold cellsOf at *
    rw [List.flatMap_cons, List.getElem?_append_right (by show 5 ≤ _; omega), show (i + 1) * 5 + j - r.cells.length = i * 5 + j by show _ - 5 = _; omega, ih]
    rfl

/-- What is owned stays owned behind a call that leaves old blocks alone. -/
theorem own_below {w w' : World} {base : Nat} {e : TypeId} {size n : Nat} {v : Value} {xs : List Value} (h : w.ownsRow base e size v n xs) (hb : Below w.heap.size w w') : w'.ownsRow base e size v n xs := by
  refine ⟨h.1, ?_⟩
  rcases h.2 with h2 | ⟨g, cap, cur, h1, h2, h3, h4⟩
  · exact .inl h2
  · exact .inr ⟨g, cap, cur, h1, h2, by rw [hb.block g (Array.getElem?_eq_some_iff.1 h3).1]; exact h3, h4⟩

/-- What is owned from a higher block on is owned from a lower one on. -/
theorem own_weakR {w : World} {base base' : Nat} {e : TypeId} {size n : Nat} {v : Value} {xs : List Value} (h : w.ownsRow base' e size v n xs) (hb : base ≤ base') : w.ownsRow base e size v n xs := by
  refine ⟨h.1, ?_⟩
  rcases h.2 with h2 | ⟨g, cap, cur, h1, h2, h3⟩
  · exact .inl h2
  · exact .inr ⟨g, cap, cur, h1, Nat.le_trans hb h2, h3⟩

/-- What is owned is held: the slice's own address, as the walks ask it. -/
theorem own_held {w : World} {base : Nat} {v : Value} {R : List Rg} (h : w.ownsRow base 132 5 v R.length (cellsOf R)) :
    ∃ ao cap, v = .slice ao R.length cap ∧ Held w ao R ∧ R.length ≤ maxLen ∧ (ao = none → cap = 0) ∧ (∀ g o sp, ao = some ⟨g, o, sp⟩ → base ≤ g ∧ g < w.heap.size) := by
  rcases h.2 with ⟨rfl, h0⟩ | ⟨g, cap, cur, rfl, h2, h3, h4, h5, h6, h7⟩
  · have : R = [] := List.length_eq_zero_iff.1 h0
    subst this
    exact ⟨none, 0, rfl, .inl rfl, by decide, fun _ => rfl, fun g o sp h => by cases h⟩
  · refine ⟨some ⟨g, 0, none⟩, cap, rfl, .inr ⟨g, 0, rfl, (Array.getElem?_eq_some_iff.1 h3).1, ?_⟩, by omega, fun h => (by cases h), fun g' o sp h => (by cases h; exact ⟨h2, (Array.getElem?_eq_some_iff.1 h3).1⟩)⟩
    intro i hi
    have key : ∀ j, j < 5 → w.cell? ⟨g, i * 5 + j, none⟩ = (rg R i).cells[j]? := fun j hj => by
      rw [h.cellAt (i * 5 + j) (by omega), cellsOf_at R i hi j hj]
    rw [Nat.zero_add]
    exact ⟨key 0 (by decide), key 1 (by decide), key 2 (by decide), key 3 (by decide), key 4 (by decide)⟩

/-- What Decode answers. -/
def DecPost (s : ByteArray) (w : World) (e : Ending) (w' : World) : Prop :=
  Below w.heap.size w w' ∧ ((∃ R v, TabS s R ∧ e = .returned (.tuple #[v, .int .i64 0]) ∧ w'.ownsRow w.heap.size 132 5 v R.length (cellsOf R)) ∨
    ((∀ R, ¬ TabS s R) ∧ e = .returned (.tuple #[.slice none 0 0, .int .i64 14])))

set_option maxRecDepth 100000 in
set_option maxHeartbeats 1000000 in
theorem decode_loop (s : ByteArray) (w : World) (hs : s.size ≤ maxLen) (count : Nat) (p0 : Nat) (hc : count ≤ 200) (hp0 : p0 ≤ s.size) (h0 : ReadTo s count [] p0) (G : Gives s 0 count p0) :
    Calls Tryd.prog 57 #[.string s] w fun e w' => DecPost s w e w' := by
  obtain ⟨i0, hi, hz0, hz1, hz2⟩ := info_parts Tryd.info132
  unfold maxLen at hs
  go_enter Tryd.func57, Tryd.ntmps57
  go_wp2_with fail
  refine (G _).mono ?_
  rintro e w' ⟨rfl, hw⟩
  subst hw
  go_wp2_with fail
  go_loopw [5, 7, 8] (fun a v i wr => ∃ (k p : Nat) (Q : List Rg), k ≤ count ∧ i = .int .i64 k ∧ a = .int .i64 p ∧ p ≤ s.size ∧ Q.length = k ∧ ReadTo s count Q p ∧ wr.ownsRow w'.heap.size 132 5 v k (cellsOf Q) ∧ Below w'.heap.size w' wr) (fun _ _ i _ => count - (intOf i).toNat)
  case atStart => exact ⟨0, p0, [], Nat.zero_le _, rfl, rfl, hp0, rfl, h0, World.ownsRow_nil _ _ _ _, Below.refl _ _⟩
  case round =>
    obtain ⟨k, p, Q, hk, rfl, rfl, hp, hQ, hread, hown, hbel⟩ := hrel
    have HQ := hide hQ
    have HR := hide hread
    have hB := hbel.size
    clear hQ hread
    by_cases hlt : k < count
    · rcases range_or s p hs hp with ⟨r, q, hr, he, hq, C⟩ | ⟨hno, C⟩
      · have hn := hide (read_next (unhide HR) hr he)
        have CC := hide C
        clear C hr he
        go_wp2_with fail
        refine (unhide CC _).mono ?_
        rintro e w1 ⟨rfl, hb1⟩
        have hB1 := hb1.size
        have hown1 := own_below hown hb1
        clear hown
        go_wp2_with (at_builtin; refine wpList_append_own _ rfl _ _ 93 rfl w'.heap.size 132 i0 (.agg #[.int .i64 0, .int .i64 0, .int .i64 0, .int .i64 0, .int .i64 0]) 5 40 Tryd.underlying93 hi hz0 hz1 hz2 rfl (by decide) _ _ _ rfl ((hown1.alloc _).alloc _) ⟨w1.heap.size + 1, 0, none⟩ 1 1 [.int .i64 r.v, .int .i64 r.f, .int .i64 r.t, .int .i64 r.k, .int .i64 r.a] rfl rfl ?c1 ?c2 ?c3 ?c4 ?c5 ?_)
        case c1 => exact cells_new _ _ (by simp) 132 _
        case c2 => intro u hu; simp only [List.mem_cons, List.not_mem_nil, or_false] at hu; rcases hu with rfl | rfl | rfl | rfl | rfl <;> rfl
        case c3 => unfold maxLen; omega
        case c4 => omega
        case c5 => simp; omega
        intro v' w2 hown' hgrow _
        have hb2 : Below w'.heap.size w' w2 := (((hbel.trans (hb1.mono hbel.size)).alloc (by omega) _).alloc (by simp; omega) _).grown hgrow (by simp; omega) (own_ge hown1)
        have hO : w2.ownsRow w'.heap.size 132 5 v' (k + 1) (cellsOf (Q ++ [r])) := by rw [cellsOf_snoc]; exact hown'
        clear hgrow hown' hown1
        go_wp2
        go_roundw
        case rel => exact ⟨k + 1, q, Q ++ [r], by omega, by go_num, rfl, hq, by rw [List.length_append, unhide HQ]; rfl, unhide hn, hO, hb2⟩
        case measure => simp [intOf]; omega
      · have hn := hide (read_bad (unhide HR) (by rw [unhide HQ]; omega) hno)
        have CC := hide C
        clear C hno
        go_wp2_with fail
        refine (unhide CC _).mono ?_
        rintro e w1 ⟨rfl, hb1⟩
        go_wp2
        go_ret2
        exact ⟨(hbel.trans (hb1.mono hbel.size)).alloc (by have := hb1.size; omega) _, .inr ⟨unhide hn, rfl⟩⟩
    · have hkc : k = count := by omega
      have hl : (Q.length : Int) = (count : Int) := by rw [unhide HQ, hkc]
      rw [← unhide HQ] at hown
      obtain ⟨ao, cap, hv, hheld, hlen, _, _⟩ := own_held hown
      subst hv
      have T := hide (fun w (h : Held w ao Q) => isTable_any Q ao cap w h (by unfold maxLen at hlen; omega))
      have HO := hide hown
      have HL := hide hl
      have HH := hide hheld
      clear hkc hl hown hheld
      by_cases hps : p = s.size
      · have hD : D s p = [] := List.length_eq_zero_iff.1 (by rw [D_len]; omega)
        have HD := hide hD
        subst hps
        clear hD
        cases ht : isTab Q
        · have hno : Hid (∀ R, ¬ TabS s R) := (fun R (h : TabS s R) => absurd ((read_end (unhide HR) (unhide HL) h).1 ▸ h.1 : isTab Q = true) (by rw [ht]; decide))
          rw [ht] at T
          clear ht
          go_wp2_with fail
          refine (unhide T _ (unhide HH)).mono ?_
          rintro e w1 ⟨rfl, hb1⟩
          go_wp2
          go_ret2
          exact ⟨hbel.trans (hb1.mono hbel.size), .inr ⟨unhide hno, rfl⟩⟩
        · have hyes := hide (read_tab (unhide HR) (unhide HL) (unhide HD) ht)
          rw [ht] at T
          clear ht
          go_wp2_with fail
          refine (unhide T _ (unhide HH)).mono ?_
          rintro e w1 ⟨rfl, hb1⟩
          go_wp2
          go_ret2
          exact ⟨hbel.trans (hb1.mono hbel.size), .inl ⟨Q, _, unhide hyes, rfl, own_below (unhide HO) hb1⟩⟩
      · have hne : ((p : Int) != (s.size : Int)) = true := by rw [bne_iff_ne]; omega
        have hno : Hid (∀ R, ¬ TabS s R) := (fun R (h : TabS s R) => hps (by
          have := congrArg List.length (read_end (unhide HR) (unhide HL) h).2
          rw [D_len] at this; simp at this; omega))
        clear hps
        go_wp2
        go_ret2
        exact ⟨hbel, .inr ⟨unhide hno, rfl⟩⟩

theorem decode_any (s : ByteArray) (w : World) (hs : s.size ≤ maxLen) : Calls Tryd.prog 57 #[.string s] w fun e w' => DecPost s w e w' := by
  rcases gives_or s 0 hs (Nat.zero_le _) with ⟨x, q, hf, he, hq, G⟩ | ⟨hn, F⟩
  · by_cases h200 : x ≤ 200
    · obtain ⟨c, rfl⟩ := Int.eq_ofNat_of_zero_le hf.1
      refine decode_loop s w hs c q (by omega) hq ⟨?_, by simp, hf⟩ G
      rw [← D_zero s, he]; rfl
    · have hno : Hid (∀ R, ¬ TabS s R) := (fun R (h : TabS s R) => h200 (by
        have e1 := tab_head h
        rw [← D_zero s, he, getL_enc hf] at e1
        have := (Prod.mk.inj (Option.some.inj e1)).1
        have := isTab_len h.1
        omega))
      clear he
      go_enter Tryd.func57, Tryd.ntmps57
      go_wp2_with fail
      refine (G _).mono ?_
      rintro e w' ⟨rfl, hw⟩
      subst hw
      go_wp2
      go_ret2
      exact ⟨Below.refl _ _, .inr ⟨unhide hno, rfl⟩⟩
  · have hno : Hid (∀ R, ¬ TabS s R) := (fun R (h : TabS s R) => by
      have e1 := tab_head h
      rw [← D_zero s, hn] at e1
      cases e1)
    clear hn
    go_enter Tryd.func57, Tryd.ntmps57
    go_wp2_with fail
    refine (F _).mono ?_
    rintro e w' ⟨rfl, hw⟩
    subst hw
    go_wp2
    go_ret2
    exact ⟨Below.refl _ _, .inr ⟨unhide hno, rfl⟩⟩
end Go.Proofs.YtoepcplbpochpaaDoor
