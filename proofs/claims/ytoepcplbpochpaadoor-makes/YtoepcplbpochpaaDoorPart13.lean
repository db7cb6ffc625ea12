/-
  Plain mathematics: what is read is what was written, and in one way alone. No Go here.
-/
import Derived.Test.YtoepcplbpochpaaDoorPart12
import Derived.Test.YtoepcplbpochpaaDoorPart11
import Derived.Test.YtoepcplbpochpaaDoorPart1
import Derived.Test.YtoepcplbpochpaaDoorPart3
import Derived.Test.YtoepcplbpochpaaDoorPart5

namespace Go.Proofs.YtoepcplbpochpaaDoor

/-- Numbers that can be written. -/
def Fine (x : Int) : Prop := 0 ≤ x ∧ x ≤ 2097151

theorem getL_sound : ∀ (l : List UInt8) (x : Int) (j : Nat), getL l = some (x, j) → Fine x ∧ l = encB x ++ l.drop j ∧ j = (encB x).length := by
  intro l x j h
  cases l with
  | nil => rw [getL_nil] at h; cases h
  | cons a r =>
    have ba := byte_lt a
    rw [getL_cons] at h
    by_cases ha : (a.toNat : Int) < 128
    · rw [if_pos ha] at h
      obtain ⟨rfl, rfl⟩ := Prod.mk.inj (Option.some.inj h)
      have e : encB (a.toNat : Int) = [a] := (test1_iff a _ (by omega)).2 ha
      rw [e]; exact ⟨⟨by omega, by omega⟩, rfl, rfl⟩
    rw [if_neg ha] at h
    cases r with
    | nil => rw [get2_nil] at h; cases h
    | cons b r =>
      have bb := byte_lt b
      rw [get2_cons] at h
      by_cases hb : (b.toNat : Int) < 128
      · rw [if_pos hb] at h
        by_cases hb0 : (b.toNat : Int) = 0
        · rw [if_pos hb0] at h; cases h
        rw [if_neg hb0] at h
        obtain ⟨rfl, rfl⟩ := Prod.mk.inj (Option.some.inj h)
        have e : encB ((a.toNat : Int) % 128 + (b.toNat : Int) * 128) = [a, b] := (test2_iff a b _ (by omega)).2 ⟨by omega, hb, hb0⟩
        rw [e]; exact ⟨⟨by omega, by omega⟩, rfl, rfl⟩
      rw [if_neg hb] at h
      cases r with
      | nil => rw [get3_nil] at h; cases h
      | cons c r =>
        have bc := byte_lt c
        rw [get3_cons] at h
        by_cases hc : (c.toNat : Int) < 128
        · rw [if_pos hc] at h
          by_cases hc0 : (c.toNat : Int) = 0
          · rw [if_pos hc0] at h; cases h
          rw [if_neg hc0] at h
          obtain ⟨rfl, rfl⟩ := Prod.mk.inj (Option.some.inj h)
          have e : encB ((a.toNat : Int) % 128 + (b.toNat : Int) % 128 * 128 + (c.toNat : Int) * 16384) = [a, b, c] := (test3_iff a b c _ (by omega)).2 ⟨by omega, by omega, hc, hc0⟩
          rw [e]; exact ⟨⟨by omega, by omega⟩, rfl, rfl⟩
        rw [if_neg hc] at h; cases h

/-- Numbers, one behind the other, as bytes. -/
def bytesOf (l : List Int) : List UInt8 := l.flatMap encB
theorem bytesOf_nil : bytesOf [] = [] := rfl
theorem bytesOf_cons (x : Int) (l : List Int) : bytesOf (x :: l) = encB x ++ bytesOf l := rfl
theorem bytesOf_app (l m : List Int) : bytesOf (l ++ m) = bytesOf l ++ bytesOf m := List.flatMap_append

theorem getL_enc {x : Int} (h : Fine x) (r : List UInt8) : getL (encB x ++ r) = some (x, (encB x).length) := by
  rw [get_enc h.1 h.2]; unfold encB; rw [List.length_map]

/-- One reading alone. -/
theorem uniq : ∀ (xs ys : List Int) (r t : List UInt8), (∀ x ∈ xs, Fine x) → (∀ y ∈ ys, Fine y) → xs.length ≤ ys.length → bytesOf xs ++ r = bytesOf ys ++ t →
    ∃ zs, ys = xs ++ zs ∧ r = bytesOf zs ++ t
  | [], ys, r, t, _, _, _, h => ⟨ys, rfl, h⟩
  | x :: xs, [], _, _, _, _, hl, _ => by simp at hl
  | x :: xs, y :: ys, r, t, hx, hy, hl, h => by
    rw [bytesOf_cons, bytesOf_cons, List.append_assoc, List.append_assoc] at h
    have h1 := getL_enc (hx x (by simp)) (bytesOf xs ++ r)
    rw [h, getL_enc (hy y (by simp))] at h1
    have e : y = x := (Prod.mk.inj (Option.some.inj h1)).1
    subst e
    have h2 := List.append_cancel_left h
    obtain ⟨zs, rfl, e2⟩ := uniq xs ys r t (fun x h => hx x (by simp [h])) (fun x h => hy x (by simp [h])) (by simpa using hl) h2
    exact ⟨zs, rfl, e2⟩

/-- What is left behind so many numbers begins with a number, if more numbers were written. -/
theorem none_short {xs ys : List Int} {r t : List UInt8} (hx : ∀ x ∈ xs, Fine x) (hy : ∀ y ∈ ys, Fine y) (hl : xs.length < ys.length) (h : bytesOf xs ++ r = bytesOf ys ++ t) (hn : getL r = none) : False := by
  obtain ⟨zs, rfl, rfl⟩ := uniq xs ys r t hx hy (by omega) h
  match zs with
  | [] => simp at hl
  | z :: zs =>
    rw [bytesOf_cons, List.append_assoc, getL_enc (hy z (by simp))] at hn
    cases hn

theorem bytesOf_inj {xs ys : List Int} (hx : ∀ x ∈ xs, Fine x) (hy : ∀ y ∈ ys, Fine y) (h : bytesOf xs = bytesOf ys) : xs = ys := by
  by_cases hl : xs.length ≤ ys.length
  · obtain ⟨zs, rfl, e⟩ := uniq xs ys [] [] hx hy hl (by simpa using h)
    match zs with
    | [] => simp
    | z :: zs =>
      have := getL_enc (hy z (by simp)) (bytesOf zs)
      rw [← bytesOf_cons] at this
      simp only [List.append_nil] at e
      rw [← e] at this; cases this
  · obtain ⟨zs, rfl, e⟩ := uniq ys xs [] [] hy hx (by omega) (by simpa using h.symm)
    match zs with
    | [] => simp
    | z :: zs =>
      have := getL_enc (hx z (by simp)) (bytesOf zs)
      rw [← bytesOf_cons] at this
      simp only [List.append_nil] at e
      rw [← e] at this; cases this
end Go.Proofs.YtoepcplbpochpaaDoor

/-
  Lists of numbers as bytes: what lodgeref.written and leb.rangeBytes answer.
-/
namespace Go.Proofs.YtoepcplbpochpaaDoor
open Go.RowKit

/-- Numbers, one behind the other, as a string. -/
def wrS (l : List Int) : ByteArray := ⟨(bytesOf l).toArray⟩

theorem wrS_nil : wrS [] = ⟨#[]⟩ := rfl
theorem wrS_data (l : List Int) : (wrS l).data.toList = bytesOf l := rfl
theorem wrS_snoc (l : List Int) (x : Int) : wrS l ++ numS x = wrS (l ++ [x]) := by
  apply Go.WideShapes.bytes_inj
  rw [ByteArray.data_append, Array.toList_append, wrS_data, numS_data, wrS_data]
  unfold bytesOf
  rw [List.flatMap_append]; simp
theorem wrS_app (l m : List Int) : wrS l ++ wrS m = wrS (l ++ m) := by
  apply Go.WideShapes.bytes_inj
  rw [ByteArray.data_append, Array.toList_append, wrS_data, wrS_data, wrS_data]
  unfold bytesOf
  rw [List.flatMap_append]
theorem encB_le (x : Int) : (encB x).length ≤ 3 := by unfold encB; rw [List.length_map, enc_len]; split <;> (try split) <;> omega
theorem wrS_size_le (l : List Int) : (wrS l).size ≤ 3 * l.length := by
  rw [Lib.size_eq, wrS_data]; unfold bytesOf
  induction l with
  | nil => simp
  | cons x r ih => rw [List.flatMap_cons, List.length_append, List.length_cons]; have := encB_le x; omega

/-- The i-th number of a list. -/
theorem take_nth (l : List Int) (k : Nat) (h : k < l.length) : l.take (k + 1) = l.take k ++ [nth l k] := by
  rw [List.take_succ_eq_append_getElem h]; unfold nth; rw [List.getD_eq_getElem?_getD, List.getElem?_eq_getElem h]; rfl

theorem ret_str {a b : ByteArray} (h : a = b) : Ending.returned (.string a) = .returned (.string b) := by rw [h]

set_option maxRecDepth 100000 in
set_option maxHeartbeats 1000000 in
theorem written_any (l : List Int) (b off cap : Nat) (w : World) (hl : l.length ≤ 100000) (hb : b < w.heap.size) (hc : ∀ i, i < l.length → w.cell? ⟨b, off + i, none⟩ = some (.int .i64 (nth l i)))
    (hr : ∀ i, i < l.length → 0 ≤ nth l i ∧ nth l i ≤ 2097151) :
    Calls Tryd.prog 119 #[.slice (some ⟨b, off, none⟩) l.length cap] w fun e w' => e = .returned (.string (wrS l)) ∧ Below w.heap.size w w' := by
  go_enter Tryd.func119, Tryd.ntmps119
  go_wp2
  go_loopw [3, 4] (fun s i wr => ∃ k : Nat, k ≤ l.length ∧ i = .int .i64 k ∧ s = .string (wrS (l.take k)) ∧ Below w.heap.size w wr) (fun _ i _ => l.length - (intOf i).toNat)
  case atStart => exact ⟨0, Nat.zero_le _, rfl, rfl, Below.refl _ _⟩
  case round =>
    obtain ⟨k, hk, rfl, rfl, hbel⟩ := hrel
    by_cases hlt : k < l.length
    · have hcell := (hbel.cell (p := ⟨b, off + k, none⟩) hb).trans (hc k hlt)
      obtain ⟨r0, r1⟩ := hr k hlt
      have P : ∀ w, Calls Tryd.prog 117 #[.int .i64 (nth l k)] w fun e w' => e = .returned (.tuple #[.string (numS (nth l k)), .int .i64 0]) ∧ Below w.heap.size w w' := fun w => by
        have := refput_any (nth l k) w; rw [putR_yes r0 r1] at this; exact this
      have P := hide P
      have hs1 : (wrS (l.take k)).size ≤ 300000 := by have := wrS_size_le (l.take k); rw [List.length_take] at this; omega
      have hs2 : (numS (nth l k)).size ≤ 3 := by have := encB_le (nth l k); rw [Lib.size_eq, numS_data]; exact this
      have HS := hide (take_nth l k hlt)
      go_wp2_with fail
      refine (unhide P _).mono ?_
      rintro e w1 ⟨rfl, hb1⟩
      go_wp2
      go_roundw
      case rel => exact ⟨k + 1, by omega, by go_num, by rw [wrS_snoc, unhide HS], hbel.trans (hb1.mono hbel.size)⟩
      case measure => simp [intOf]; omega
    · have : k = l.length := by omega
      subst this
      go_wp2
      go_ret
      exact ⟨ret_str (by rw [List.take_length]), hbel⟩

/-- The five numbers that are written of a range. -/
def nums (r : Rg) : List Int := [r.v, r.f, r.t - r.f, r.k, r.a]

theorem nums_ok {r : Rg} (h : isRg r = true) : ∀ i, i < 5 → 0 ≤ nth (nums r) i ∧ nth (nums r) i ≤ 65535 := by
  unfold isRg at h
  rw [decide_eq_true_eq] at h
  intro i hi
  match i, hi with
  | 0, _ => show 0 ≤ r.v ∧ r.v ≤ 65535; omega
  | 1, _ => show 0 ≤ r.f ∧ r.f ≤ 65535; omega
  | 2, _ => show 0 ≤ r.t - r.f ∧ r.t - r.f ≤ 65535; omega
  | 3, _ => show 0 ≤ r.k ∧ r.k ≤ 65535; omega
  | 4, _ => show 0 ≤ r.a ∧ r.a ≤ 65535; omega

end Go.Proofs.YtoepcplbpochpaaDoor

/-
  What leb.Encode answers, of every list of ranges.
-/
namespace Go.Proofs.YtoepcplbpochpaaDoor
open Go.RowKit

/-- The numbers that are written of a table; its bytes as a string. -/
def flat (R : List Rg) : List Int := (R.length : Int) :: R.flatMap nums
def flatTo (R : List Rg) (k : Nat) : List Int := (R.length : Int) :: (R.take k).flatMap nums
def encAll (R : List Rg) : ByteArray := wrS (flat R)

theorem numS_wr (x : Int) : numS x = wrS [x] := by
  apply Go.WideShapes.bytes_inj
  rw [numS_data, wrS_data]; unfold bytesOf; simp
theorem flatMap_len (R : List Rg) : (R.flatMap nums).length = 5 * R.length := by
  induction R with
  | nil => rfl
  | cons r R ih => rw [List.flatMap_cons, List.length_append, ih, List.length_cons]; show 5 + _ = _; omega
theorem flatTo_len (R : List Rg) (k : Nat) : (flatTo R k).length ≤ 1 + 5 * k := by
  unfold flatTo; rw [List.length_cons, flatMap_len, List.length_take]; omega
theorem take_rg (R : List Rg) (k : Nat) (h : k < R.length) : R.take (k + 1) = R.take k ++ [rg R k] := by
  rw [List.take_succ_eq_append_getElem h]; unfold rg; rw [List.getD_eq_getElem?_getD, List.getElem?_eq_getElem h]; rfl
theorem flatTo_succ (R : List Rg) (k : Nat) (h : k < R.length) : flatTo R (k + 1) = flatTo R k ++ nums (rg R k) := by
  unfold flatTo; rw [take_rg R k h, List.flatMap_append]; simp
theorem flatTo_end (R : List Rg) : flatTo R R.length = flat R := by unfold flatTo flat; rw [List.take_length]

theorem isTab_len {R : List Rg} (h : isTab R = true) : R.length ≤ 200 := by
  unfold isTab at h; rw [Bool.and_eq_true, decide_eq_true_eq] at h; exact h.1
theorem isTab_rg {R : List Rg} (h : isTab R = true) {k : Nat} (hk : k < R.length) : isRg (rg R k) = true := by
  unfold isTab tabTo at h; rw [Bool.and_eq_true, List.all_eq_true] at h
  have := h.2 k (by rw [List.mem_range]; exact hk)
  rw [Bool.and_eq_true] at this; exact this.1

/-- What Encode answers. -/
def encV (R : List Rg) : Value := if isTab R = true then .tuple #[.string (encAll R), .int .i64 0] else .tuple #[.string ByteArray.empty, .int .i64 10]
theorem encV_yes {R : List Rg} (h : isTab R = true) : encV R = .tuple #[.string (encAll R), .int .i64 0] := by unfold encV; rw [if_pos h]
theorem encV_no {R : List Rg} (h : isTab R = false) : encV R = .tuple #[.string ByteArray.empty, .int .i64 10] := by unfold encV; rw [if_neg (by rw [h]; decide)]

theorem ret_str2 {a b : ByteArray} {z : Int} (h : a = b) : Ending.returned (.tuple #[.string a, .int .i64 z]) = .returned (.tuple #[.string b, .int .i64 z]) := by rw [h]

end Go.Proofs.YtoepcplbpochpaaDoor

/-
  What lodgeref.Encode answers, of every list of ranges: just what leb.Encode answers.
-/
namespace Go.Proofs.YtoepcplbpochpaaDoor
open Go.RowKit

theorem Tryd.intInfo : (Tryd.prog.info? 3).map (fun i => (i.zero, i.size, i.bytes)) = some (some (.int .i64 0), 1, 8) := by kernel_rfl

/-- A slice that was just laid out is owned. -/
theorem own_new (w : World) (base : Nat) (e : TypeId) (xs : List Value) (hb : base ≤ w.heap.size) (hl : xs.length ≤ maxLen) :
    (w.alloc (.cells xs.toArray e)).ownsRow base e 1 (.slice (some ⟨w.heap.size, 0, none⟩) xs.length xs.length) xs.length xs := by
  refine ⟨by simp, .inr ⟨w.heap.size, xs.length, xs.toArray, rfl, hb, ?_, Nat.le_refl _, hl, by simp, by simp⟩⟩
  exact heap_alloc_new _ _

theorem cells_new (w : World) (n : Nat) (hn : n = w.heap.size) (e : TypeId) (xs : List Value) :
    ∀ j u, xs[j]? = some u → (w.alloc (.cells xs.toArray e)).cell? ((⟨n, 0, none⟩ : Addr).add j) = some u := by
  intro j u hj
  have : (⟨n, 0, none⟩ : Addr).add j = ⟨n, j, none⟩ := by unfold Addr.add; split <;> simp_all
  rw [this, World.cell?_alloc_at (hn := hn)]
  simpa using hj

theorem own_lt {w : World} {base n cap g : Nat} {e : TypeId} {xs : List Value} (h : w.ownsRow base e 1 (.slice (some ⟨g, 0, none⟩) n cap) n xs) : g < w.heap.size := by
  rcases h.2 with ⟨h, _⟩ | ⟨g', cap', cur, h, _, hh, _⟩
  · simp at h
  · simp only [Value.slice.injEq, Option.some.injEq, Addr.mk.injEq, and_true, true_and] at h
    obtain ⟨rfl, rfl⟩ := h
    exact (Array.getElem?_eq_some_iff.1 hh).1

theorem flat_ok {R : List Rg} (h : isTab R = true) : ∀ x ∈ flat R, 0 ≤ x ∧ x ≤ 65535 := by
  intro x hx
  unfold flat at hx
  rw [List.mem_cons, List.mem_flatMap] at hx
  rcases hx with rfl | ⟨r, hr, hx⟩
  · have := isTab_len h; omega
  · obtain ⟨k, hk, rfl⟩ := List.mem_iff_getElem.1 hr
    have e : R[k] = rg R k := by unfold rg; rw [List.getD_eq_getElem?_getD, List.getElem?_eq_getElem hk]; rfl
    rw [e] at hx
    have ok := nums_ok (isTab_rg h hk)
    obtain ⟨i, hi, rfl⟩ := List.mem_iff_getElem.1 hx
    have := ok i hi
    unfold nth at this
    rw [List.getD_eq_getElem?_getD, List.getElem?_eq_getElem hi] at this
    exact this

set_option maxRecDepth 100000 in
set_option maxHeartbeats 1000000 in
theorem refEncode_any (R : List Rg) (ao : Option Addr) (cap : Nat) (w : World) (hH : Held w ao R) (hlen : R.length ≤ 9223372036854775807) :
    Calls Tryd.prog 93 #[.slice ao R.length cap] w fun e w' => e = .returned (encV R) ∧ Below w.heap.size w w' := by
  have T := hide (fun w (h : Held w ao R) => refTable_any R ao cap w h hlen)
  obtain ⟨i0, hi, hz0, hz1, hz2⟩ := info_parts Tryd.intInfo
  cases ht : isTab R
  · rw [encV_no ht]
    rw [ht] at T
    clear ht
    go_enter Tryd.func93, Tryd.ntmps93
    go_wp2_with fail
    refine (unhide T _ hH).mono ?_
    rintro e w1 ⟨rfl, hb1⟩
    go_wp2
    go_ret2
    exact ⟨rfl, hb1⟩
  · rw [encV_yes ht]
    rw [ht] at T
    have HT := hide ht
    have h200 := isTab_len ht
    clear ht
    go_enter Tryd.func93, Tryd.ntmps93
    go_wp2_with fail
    refine (unhide T _ hH).mono ?_
    rintro e w1 ⟨rfl, hb1⟩
    go_wp2_with fail
    go_loopw [5, 6, 7] (fun v i _ wr => ∃ k : Nat, k ≤ R.length ∧ i = .int .i64 k ∧ wr.ownsRow w.heap.size 3 1 v (flatTo R k).length ((flatTo R k).map (Value.int .i64)) ∧ Below w.heap.size w wr) (fun _ i _ _ => R.length - (intOf i).toNat)
    case atStart => exact ⟨0, Nat.zero_le _, rfl, own_new w1 w.heap.size 3 [.int .i64 (R.length : Int)] hb1.size (by show 1 ≤ maxLen; decide), hb1.alloc hb1.size _⟩
    case round =>
      obtain ⟨k, hk, rfl, hown, hbel⟩ := hrel
      have hB := hbel.size
      have hfl := flatTo_len R k
      by_cases hlt : k < R.length
      · have hrg := isTab_rg (unhide HT) hlt
        unfold isRg at hrg
        rw [decide_eq_true_eq] at hrg
        obtain ⟨g1, g2, g3, g4, g5, g6, g7, g8, g9⟩ := hrg
        have HS := hide (flatTo_succ R k hlt)
        obtain ⟨b, off, rfl, hb, hl⟩ : ∃ b off, ao = some ⟨b, off, none⟩ ∧ b < w.heap.size ∧ Lie w b off R := by
          rcases hH with h | h
          · subst h; exact absurd hlt (by simp)
          · exact h
        obtain ⟨c0, c1, c2, c3, c4⟩ := (hl k hlt).below hbel hb
        go_wp2_with (at_builtin; refine wpList_append_own _ rfl _ _ 32 rfl w.heap.size 3 i0 (.int .i64 0) 1 8 Tryd.underlying32 hi hz0 hz1 hz2 rfl (by decide) _ _ _ rfl ((hown.alloc _).alloc _) ⟨wr.heap.size + 1, 0, none⟩ 5 5 [.int .i64 (rg R k).v, .int .i64 (rg R k).f, .int .i64 ((rg R k).t - (rg R k).f), .int .i64 (rg R k).k, .int .i64 (rg R k).a] rfl rfl ?c1 ?c2 ?c3 ?c4 ?c5 ?_)
        case c1 => exact cells_new _ _ (by simp) 3 _
        case c2 => intro u hu; simp only [List.mem_cons, List.not_mem_nil, or_false] at hu; rcases hu with rfl | rfl | rfl | rfl | rfl <;> rfl
        case c3 => unfold maxLen; omega
        case c4 => omega
        case c5 => simp; omega
        intro v' w2 hown' hgrow _
        have hb2 : Below w.heap.size w w2 := ((hbel.alloc hbel.size _).alloc (by simp; omega) _).grown hgrow (by simp; omega) (own_ge hown)
        have hO : w2.ownsRow w.heap.size 3 1 v' (flatTo R (k + 1)).length ((flatTo R (k + 1)).map (Value.int .i64)) := by
          rw [unhide HS, List.length_append, List.map_append]; exact hown'
        clear hgrow hown' hown
        go_wp2
        go_roundw
        case rel => exact ⟨k + 1, by omega, by go_num, hO, hb2⟩
        case measure => simp [intOf]; omega
      · have hk' : k = R.length := by omega
        have e := (show flatTo R k = flat R by rw [hk', flatTo_end])
        rw [e] at hown hfl
        have hl1 : 1 ≤ (flat R).length := by unfold flat; simp
        obtain ⟨g, cap', rfl⟩ : ∃ g cap', u5 = .slice (some ⟨g, 0, none⟩) (flat R).length cap' := by
          rcases hown.2 with ⟨_, h⟩ | ⟨g, cap', cur, h, _⟩
          · omega
          · exact ⟨g, cap', h⟩
        have hW := hide (fun w hb hc => written_any (flat R) g 0 cap' w (by omega) hb hc (fun i hi => by
          have := flat_ok (unhide HT) (flat R)[i] (List.getElem_mem hi)
          unfold nth; rw [List.getD_eq_getElem?_getD, List.getElem?_eq_getElem hi]
          exact ⟨this.1, by have := this.2; simp only [Option.getD_some]; omega⟩))
        have hlt' := own_lt hown
        have hcl : ∀ i, i < (flat R).length → wr.cell? ⟨g, 0 + i, none⟩ = some (.int .i64 (nth (flat R) i)) := fun i hi => by
          rw [Nat.zero_add, hown.cellAt i (by omega)]
          unfold nth; rw [List.getD_eq_getElem?_getD, List.getElem?_map, List.getElem?_eq_getElem hi]; rfl
        have HC := hide hcl
        clear hk' e hown hcl
        go_wp2_with fail
        refine (unhide hW _ hlt' (unhide HC)).mono ?_
        rintro e w2 ⟨rfl, hb2⟩
        go_wp2
        go_ret2
        exact ⟨rfl, hbel.trans (hb2.mono hbel.size)⟩
end Go.Proofs.YtoepcplbpochpaaDoor

/-
  The colours of the registers: lodgeref.Colours.
-/
namespace Go.Proofs.YtoepcplbpochpaaDoor
open Go.RowKit

def bitOf : Value → Nat
  | .bool true => 1
  | _ => 0
theorem nth_mem {l : List Int} {k : Nat} (h : k < l.length) : nth l k ∈ l := by
  unfold nth; rw [List.getD_eq_getElem?_getD, List.getElem?_eq_getElem h]; exact List.getElem_mem h
theorem mem_nth {l : List Int} {z : Int} (h : z ∈ l) : ∃ k, k < l.length ∧ nth l k = z := by
  obtain ⟨k, hk, e⟩ := List.getElem_of_mem h
  exact ⟨k, hk, by unfold nth; rw [List.getD_eq_getElem?_getD, List.getElem?_eq_getElem hk]; exact e⟩
theorem takL_at {h : Nat → Nat → Bool} {c : Nat → Nat} {r s k : Nat} (hk : k < (takL h c r s).length) : ∃ q, q < s ∧ nth (takL h c r s) k = (c q : Int) := by
  obtain ⟨q, h1, _, h3⟩ := takL_mem.1 (nth_mem hk)
  exact ⟨q, h1, h3⟩
theorem own_nth {w : World} {base : Nat} {v : Value} {xs : List Int} (h : w.ownsRow base 3 1 v xs.length (intCells xs)) {k : Nat} (hk : k < xs.length) : ∃ g cap, v = .slice (some ⟨g, 0, none⟩) xs.length cap ∧ g < w.heap.size ∧ w.cell? ⟨g, k, none⟩ = some (.int .i64 (nth xs k)) := by
  obtain ⟨g, cap, rfl, _, hg⟩ := h.form (by omega)
  refine ⟨g, cap, rfl, hg, ?_⟩
  rw [h.cellAt k (by omega)]
  unfold intCells nth
  rw [List.getElem?_map, List.getElem?_eq_getElem hk, List.getD_eq_getElem?_getD, List.getElem?_eq_getElem hk]
  rfl

def ColPost (w : World) (L : List In4) (R : Nat) (e : Ending) (w' : World) : Prop := ∃ so sc, e = .returned (.slice so R sc) ∧ HeldI w' so (colL (hitB L R) R) ∧ Below w.heap.size w w'

set_option maxRecDepth 100000 in
set_option maxHeartbeats 8000000 in
theorem refColours_any (P V : Int) (R : Nat) (L : List In4) (ao : Option Addr) (cap : Nat) (hp : RightP P R V L) (w : World) (hH : HeldIns w ao L) :
    Calls Tryd.prog 64 #[.agg #[.int .i64 P, .int .i64 R, .int .i64 V, .slice ao L.length cap]] w (ColPost w L R) := by
  have hR := hp.r12
  obtain ⟨i0, hi0, hz0, hz1', hz2'⟩ := info_parts Tryd.info3
  obtain ⟨w1, hw1, HP1, HL1, hz1⟩ := pbox w P R V (.slice ao L.length cap)
  have HW := hide hw1
  have HH1 : Hid (HeldIns w1 ao L) := hH.below (unhide HL1)
  have HH0 := hide hH
  have KM := hide (fun (a b : Nat) (ha : a < R) (hb : b < R) w' (h : HeldIns w' ao L) => meets_any P V R L ao cap a b hp ha hb w' h)
  obtain ⟨hh, hhe⟩ : ∃ hh, hh = hitB L R := ⟨_, rfl⟩
  have HHE := hide hhe
  have HSY : Hid (∀ a b, hh a b = hh b a) := by rw [hhe]; exact hit_symm L R
  rw [← hhe] at KM
  clear hw1 hp hH hhe
  go_enter Tryd.func64, Tryd.ntmps64
  go_upto_region 1 with fail
  rw [← unhide HW]
  go_wp2_with fail
  go_loopw [3, 4] (fun v i' wr => ∃ r : Nat, r ≤ R ∧ i' = .int .i64 r ∧ Hid (wr.ownsRow (w.heap.size + 1) 3 1 v (colL hh r).length (intCells (colL hh r))) ∧ Hid (ProgB wr w.heap.size P R V (.slice ao L.length cap)) ∧ Hid (HeldIns wr ao L) ∧ Hid (Below w.heap.size w wr)) (fun _ i' _ => R - (intOf i').toNat)
  case atStart => exact ⟨0, Nat.zero_le _, rfl, World.ownsRow_nil _ _ _ _, unhide HP1, unhide HH1, unhide HL1⟩
  case round =>
    clear HP1 HH1 HL1
    obtain ⟨r, hr, rfl, HO, HB, HH, HL⟩ := hrel
    have p1 := (unhide HB).c1
    have hsz := (unhide HB).lt
    by_cases hlt : r < R
    case neg =>
      obtain rfl : r = R := by omega
      go_wp2_with fail
      go_returns
      obtain ⟨so, sc, hve, hxa, _⟩ := own_heldI (unhide HO)
      rw [colL_len] at hve
      exact ⟨so, sc, congrArg Ending.returned hve, by rw [← unhide HHE]; exact hxa, unhide HL⟩
    have hri : (r : Int) < (R : Int) := by omega
    obtain ⟨wo, rfl⟩ : ∃ wo, wo = wr := ⟨_, rfl⟩
    go_wp2_with fail
    go_loopw [5, 6] (fun v i' wr => ∃ q : Nat, q ≤ r ∧ i' = .int .i64 q ∧ Hid (wr.ownsRow wo.heap.size 3 1 v (takL hh (colTo hh r) r q).length (intCells (takL hh (colTo hh r) r q))) ∧ Hid (Below wo.heap.size wo wr)) (fun _ i' _ => r - (intOf i').toNat)
    case atStart => exact ⟨0, Nat.zero_le _, rfl, World.ownsRow_nil _ _ _ _, Below.refl _ _⟩
    case round =>
      obtain ⟨q, hq, rfl, HT, HBw⟩ := hrel
      have hsw := (unhide HBw).size
      have HB2 : Hid (ProgB wr w.heap.size P R V (.slice ao L.length cap)) := (unhide HB).below (unhide HBw)
      by_cases hql : q < r
      · have hqi : (q : Int) < (r : Int) := by omega
        have HO2 := hide (own_keep (unhide HO) (Keep.of_below (unhide HBw) (fun _ => False)) (fun _ _ h => h))
        have KM' := hide (unhide KM q r (by omega) hlt wr ((unhide HH).below (unhide HBw)))
        have HSN : Hid (takL hh (colTo hh r) r (q + 1) = takL hh (colTo hh r) r q ++ if hh q r = true then [(colTo hh r q : Int)] else []) := rfl
        have htl := takL_len hh (colTo hh r) r q
        obtain ⟨t, ht⟩ : ∃ t, t = hh q r := ⟨_, rfl⟩
        rw [← ht] at KM' HSN
        clear ht
        have p0 := (unhide HB2).c0
        have p1 := (unhide HB2).c1
        have p2 := (unhide HB2).c2
        have p3 := (unhide HB2).c3
        go_wp2_with fail
        refine (unhide KM').mono ?_
        rintro _ w3 ⟨rfl, hb3⟩
        have HB3 : Hid (Below wo.heap.size wo w3) := (unhide HBw).trans (hb3.mono hsw)
        have HT3 := hide (own_keep (unhide HT) (Keep.of_below hb3 (fun _ => False)) (fun _ _ h => h))
        have HO3 := hide (own_keep (unhide HO2) (Keep.of_below hb3 (fun _ => False)) (fun _ _ h => h))
        have hs3 := (unhide HB3).size
        clear hb3 p0 p1 p2 p3 KM' HO2 HT HBw
        cases t
        · go_wp2_with fail
          go_roundw
          case rel => exact ⟨q + 1, by omega, by go_num, by rw [unhide HSN, if_neg (by decide), List.append_nil]; exact unhide HT3, unhide HB3⟩
          case measure => simp [intOf]; omega
        · obtain ⟨g, gc, hve, hgl, hgc⟩ := own_nth (unhide HO3) (k := q) (by rw [colL_len]; exact hql)
          have hcq : nth (colL hh r) q = (colTo hh r q : Int) := colL_at hh r q hql
          rw [hcq] at hgc
          rw [colL_len] at hve
          subst hve
          have q0 : (0 : Int) ≤ (q : Int) := by omega
          have hown := unhide HT3
          obtain ⟨cq, hcqe⟩ : ∃ cq : Nat, cq = colTo hh r q := ⟨_, rfl⟩
          rw [← hcqe] at hgc HSN
          have HSN1 : Hid (takL hh (colTo hh r) r (q + 1) = takL hh (colTo hh r) r q ++ [(cq : Int)]) := by rw [unhide HSN, if_pos rfl]; rfl
          clear hcq hcqe
          go_wp2_with (at_builtin; refine wpList_append_own _ rfl _ _ 32 rfl wo.heap.size 3 i0 (.int .i64 0) 1 8 Tryd.underlying32 hi0 hz0 hz1' hz2' rfl (by decide) _ _ _ rfl (hown.alloc _) ⟨w3.heap.size, 0, none⟩ 1 1 [.int .i64 (cq : Int)] rfl rfl (cells_new _ _ (by simp) 3 _) (by intro u hu; simp only [List.mem_cons, List.not_mem_nil, or_false] at hu; subst hu; rfl) (by unfold maxLen; omega) (by omega) (by simp; omega) ?_)
          intro v' w4 hown' hgrow _
          have hb4 : Below wo.heap.size wo w4 := ((unhide HB3).alloc hs3 _).grown hgrow (by simp; omega) (own_ge hown)
          clear hgrow hown hgc
          go_wp2_with fail
          go_roundw
          case rel => exact ⟨q + 1, by omega, by go_num, by rw [unhide HSN1, List.length_append, intCells_snoc]; exact hown', hb4⟩
          case measure => simp [intOf]; omega
      · obtain rfl : q = r := by omega
        clear p1
        obtain ⟨tk, htk⟩ : ∃ tk, tk = takL hh (colTo hh q) q q := ⟨_, rfl⟩
        have HTK := hide htk
        rw [← htk] at HT
        have htl : tk.length ≤ 12 := by rw [htk]; have := takL_len hh (colTo hh q) q q; omega
        have HLE : Hid (∀ c, AllTk tk c → c ≤ 12) := fun c hc => by rw [htk] at hc; have := hc.le (by omega) (Nat.le_refl _); omega
        clear htk
        obtain ⟨wt, hwt⟩ : ∃ wt, wt = wr := ⟨_, rfl⟩
        subst hwt
        go_wp2_with fail
        go_loopw [8, 9] (fun c' ag' wx => ∃ (c : Nat) (ag : Bool), c' = .int .i64 c ∧ ag' = .bool ag ∧ Hid (AllTk tk c) ∧ Hid (ag = false → (c : Int) ∉ tk) ∧ wx = wt) (fun c' ag' _ => 2 * (12 - (intOf c').toNat) + bitOf ag')
        case atStart => exact ⟨0, true, rfl, rfl, fun n hn => absurd hn (Nat.not_lt_zero _), (fun h => Bool.noConfusion h), rfl⟩
        case round =>
          obtain ⟨c, ag, rfl, rfl, HAT, HNI, rfl⟩ := hrel
          have hc12 := unhide HLE c (unhide HAT)
          cases ag
          · have HCF : Hid (colL hh (q + 1) = colL hh q ++ [(c : Int)]) := by
              show colL hh q ++ [(colTo hh (q + 1) q : Int)] = _
              rw [col_found (unhide HSY) (by omega) (by rw [← unhide HTK]; exact unhide HAT) (by rw [← unhide HTK]; exact unhide HNI rfl)]
            have hown := own_keep (unhide HO) (Keep.of_below (unhide HBw) (fun _ => False)) (fun _ _ h => h)
            have hcl := colL_len hh q
            go_wp2_with (at_builtin; refine wpList_append_own _ rfl _ _ 32 rfl (w.heap.size + 1) 3 i0 (.int .i64 0) 1 8 Tryd.underlying32 hi0 hz0 hz1' hz2' rfl (by decide) _ _ _ rfl (hown.alloc _) ⟨wr.heap.size, 0, none⟩ 1 1 [.int .i64 (c : Int)] rfl rfl (cells_new _ _ (by simp) 3 _) (by intro u hu; simp only [List.mem_cons, List.not_mem_nil, or_false] at hu; subst hu; rfl) (by unfold maxLen; omega) (by omega) (by simp; omega) ?_)
            intro v' w4 hown' hgrow _
            have hbl : Below w.heap.size w wr := (unhide HL).trans ((unhide HBw).mono (by omega))
            have hb4 : Below w.heap.size w w4 := (hbl.alloc (by omega) _).grown hgrow (by simp; omega) (fun k e => by have := own_ge hown k e; omega)
            have HP4 : Hid (ProgB w4 w.heap.size P R V (.slice ao L.length cap)) := (hgrow.block w.heap.size (by simp; omega) (fun e => by have := own_ge hown w.heap.size e.symm; omega)).trans ((unhide HB2).below (below_alloc _ _))
            have HH4 : Hid (HeldIns w4 ao L) := (unhide HH0).below hb4
            have HO4 : Hid (w4.ownsRow (w.heap.size + 1) 3 1 v' (colL hh (q + 1)).length (intCells (colL hh (q + 1)))) := by
              rw [unhide HCF, List.length_append, intCells_snoc, hcl]; exact hown'
            clear hgrow hown hown' hbl
            go_wp2_with fail
            go_roundw
            case rel => exact ⟨q + 1, by omega, by go_num, unhide HO4, unhide HP4, unhide HH4, hb4⟩
            case measure => simp [intOf]; omega
          · go_wp2_with fail
            go_loopw [8, 9, 10] (fun c' ag' i' wy => ∃ (c2 : Nat) (ag : Bool) (k : Nat), c' = .int .i64 c2 ∧ ag' = .bool ag ∧ i' = .int .i64 k ∧ k ≤ tk.length ∧ Hid (AllTk tk c2) ∧ Hid (ag = false → c2 = c ∧ ∀ j, j < k → nth tk j ≠ (c : Int)) ∧ Hid (ag = true → c < c2) ∧ wy = wr) (fun _ _ i' _ => tk.length - (intOf i').toNat)
            case atStart => exact ⟨c, false, 0, rfl, rfl, rfl, Nat.zero_le _, unhide HAT, (fun _ => ⟨rfl, fun j hj => absurd hj (Nat.not_lt_zero _)⟩), (fun h => Bool.noConfusion h), rfl⟩
            case round =>
              obtain ⟨c2, ag, k, rfl, rfl, rfl, hk, HAT2, HF, HG, rfl⟩ := hrel
              have hc2 := unhide HLE c2 (unhide HAT2)
              by_cases hkl : k < tk.length
              · obtain ⟨g, gc, hve, hgl, hgc⟩ := own_nth (unhide HT) hkl
                subst hve
                have hki : (k : Int) < (tk.length : Int) := by omega
                have hk0 : (0 : Int) ≤ (k : Int) := by omega
                obtain ⟨z, hz⟩ : ∃ z, z = nth tk k := ⟨_, rfl⟩
                rw [← hz] at hgc
                have HZ := hide hz
                clear hz
                by_cases e : z = (c2 : Int)
                · have HAT3 := hide ((unhide HAT2).succ (by rw [← e, unhide HZ]; exact nth_mem hkl))
                  have HG3 : Hid (c < c2 + 1) := by
                    unfold Hid
                    cases ag
                    · have := (unhide HF rfl).1; omega
                    · have := unhide HG rfl; omega
                  subst e
                  go_wp2_with fail
                  go_roundw
                  case rel => exact ⟨c2 + 1, true, k + 1, by go_num, rfl, by go_num, by omega, unhide HAT3, (fun h => Bool.noConfusion h), (fun _ => unhide HG3), trivial⟩
                  case measure => simp [intOf]; omega
                · have e' : (z == (c2 : Int)) = false := by rw [beq_eq_false_iff_ne]; exact e
                  have HF3 : Hid (ag = false → c2 = c ∧ ∀ j, j < k + 1 → nth tk j ≠ (c : Int)) := fun h => by
                    obtain ⟨h1, h2⟩ := unhide HF h
                    refine ⟨h1, fun j hj => ?_⟩
                    by_cases ej : j = k
                    · subst ej; rw [← unhide HZ, ← h1]; exact e
                    · exact h2 j (by omega)
                  have HE := hide e
                  clear e
                  go_wp2_with fail
                  go_roundw
                  case rel => exact ⟨c2, ag, k + 1, rfl, rfl, by go_num, by omega, unhide HAT2, unhide HF3, unhide HG, trivial⟩
                  case measure => simp [intOf]; omega
              · obtain rfl : k = tk.length := by omega
                obtain ⟨so, sc, hve, _, _⟩ := own_heldI (unhide HT)
                subst hve
                go_wp2_with fail
                go_roundw
                case rel =>
                  refine ⟨c2, ag, rfl, rfl, unhide HAT2, (fun h hm => ?_), trivial⟩
                  obtain ⟨h1, h2⟩ := unhide HF h
                  obtain ⟨j, hj, ej⟩ := mem_nth hm
                  exact h2 j hj (by rw [ej, h1])
                case measure =>
                  cases ag
                  · have := (unhide HF rfl).1
                    simp [intOf, bitOf]; omega
                  · have := unhide HG rfl
                    simp [intOf, bitOf]; omega
end Go.Proofs.YtoepcplbpochpaaDoor

/-
  What is known behind an instruction, and where two ways come together: lodge.factBehind, lodge.meet.
-/
namespace Go.Proofs.YtoepcplbpochpaaDoor
open Go.RowKit

def Ft.v (f : Ft) : Value := .agg #[.int .i64 f.k, .int .i64 f.a]
/-- A fact in memory. -/
def At2 (w : World) (b o : Nat) (f : Ft) : Prop := w.cell? ⟨b, o, none⟩ = some (.int .i64 f.k) ∧ w.cell? ⟨b, o + 1, none⟩ = some (.int .i64 f.a)
theorem At2.below {w w' : World} {B b o : Nat} {f : Ft} (h : At2 w b o f) (hb : Below B w w') (hB : b < B) : At2 w' b o f := ⟨(hb.cell hB).trans h.1, (hb.cell hB).trans h.2⟩
theorem at2_new (w : World) (f : Ft) (b : Nat) (hb : b = w.heap.size) : At2 (w.alloc (.cells #[.int .i64 f.k, .int .i64 f.a] 151)) b 0 f := by
  subst hb
  have q : ∀ i, (w.alloc (.cells #[.int .i64 f.k, .int .i64 f.a] 151)).cell? ⟨w.heap.size, i, none⟩ = #[Value.int .i64 f.k, .int .i64 f.a][i]? := fun i => World.cell?_alloc_at (hn := rfl) ..
  exact ⟨(q 0).trans rfl, (q 1).trans rfl⟩
/-- The head of factBehind. -/
theorem open_beh (w : World) (x : In4) (f : Ft) : ∃ w2, w2 = ((w.alloc (.cells #[.int .i64 x.op, .int .i64 x.d, .int .i64 x.a, .int .i64 x.b] 77)).alloc (.cells #[.int .i64 f.k, .int .i64 f.a] 151)).alloc (.cells #[.int .i64 0, .int .i64 0] 151) ∧
    At4 w2 w.heap.size 0 x ∧ At2 w2 (w.heap.size + 1) 0 f ∧ At2 w2 (w.heap.size + 1 + 1) 0 f0 ∧ Hid (Below w.heap.size w w2) ∧ (∀ o, w2.frozen? ⟨w.heap.size + 1 + 1, o, none⟩ = false) ∧ Hid (w2.heap[w.heap.size + 1 + 1]? = some (.cells #[.int .i64 0, .int .i64 0] 151 (0, 0))) := by
  obtain ⟨w1, hw1, hq, HB, hz⟩ := box4 w x
  have hz' : w1.heap.size = w.heap.size + 1 := by rw [hw1]; simp
  have hb2 := below_alloc w1 (.cells #[.int .i64 f.k, .int .i64 f.a] 151)
  have hb3 := below_alloc (w1.alloc (.cells #[.int .i64 f.k, .int .i64 f.a] 151)) (.cells #[.int .i64 0, .int .i64 0] 151)
  have hs2 : (w1.alloc (.cells #[.int .i64 f.k, .int .i64 f.a] 151)).heap.size = w.heap.size + 1 + 1 := by simp [hz']
  refine ⟨_, rfl, ?_, ?_, ?_, ?_, ?_, ?_⟩
  all_goals rw [← hw1]
  · exact (hq.below hb2 hz).below hb3 (by omega)
  · exact (at2_new w1 f (w.heap.size + 1) hz'.symm).below hb3 (by omega)
  · exact at2_new _ f0 _ hs2.symm
  · exact ((unhide HB).trans (hb2.mono (by omega))).trans (hb3.mono (by omega))
  · intro o
    have h := at_alloc (w1.alloc (.cells #[.int .i64 f.k, .int .i64 f.a] 151)) (w.heap.size + 1 + 1) (.cells #[.int .i64 0, .int .i64 0] 151) hs2.symm
    simp [World.frozen?, h]
  · exact at_alloc (w1.alloc (.cells #[.int .i64 f.k, .int .i64 f.a] 151)) (w.heap.size + 1 + 1) (.cells #[.int .i64 0, .int .i64 0] 151) hs2.symm
theorem Tryd.size151 : (Tryd.prog.info? 151).map (·.size) = some 2 := by kernel_rfl
theorem res2 {w2 : World} {N : Nat} (h : w2.heap[N]? = some (.cells #[.int .i64 0, .int .i64 0] 151 (0, 0))) (a b : Value) : ((w2.setCell ⟨N, 0, none⟩ a).setCell ⟨N, 1, none⟩ b).heap[N]? = some (.cells #[a, b] 151 (0, 0)) := by
  rw [heap_setCell_same _ N 1 _ 151 b (heap_setCell_same w2 N 0 _ 151 a h)]; rfl
theorem below_two {w w2 : World} {N : Nat} (h : Below w.heap.size w w2) (hN : w.heap.size ≤ N) (a b : Value) : Below w.heap.size w ((w2.setCell ⟨N, 0, none⟩ a).setCell ⟨N, 1, none⟩ b) := (h.setCell (p := ⟨N, 0, none⟩) hN a).setCell (p := ⟨N, 1, none⟩) hN b

set_option maxRecDepth 100000 in
set_option maxHeartbeats 8000000 in
theorem behind_any (x : In4) (v : Int) (f : Ft) (w : World) :
    Calls Tryd.prog 139 #[.agg #[.int .i64 x.op, .int .i64 x.d, .int .i64 x.a, .int .i64 x.b], .int .i64 v, .agg #[.int .i64 f.k, .int .i64 f.a]] w fun e w' => e = .returned (behF x v f).v ∧ Below w.heap.size w w' := by
  obtain ⟨w2, hw2, hx, hf, hr, HB, hfz, hz⟩ := open_beh w x f
  have HW := hide hw2
  obtain ⟨q0, q1, q2, q3⟩ := hx
  obtain ⟨c0, c1⟩ := hf
  obtain ⟨r0, r1⟩ := hr
  clear hw2
  have KW := hide (wrB_any x f.a)
  go_enter Tryd.func139, Tryd.ntmps139
  go_upto_region 1 with fail
  rw [← unhide HW]
  have HBB := HB
  by_cases h0 : f.k = 0
  · have HR := hide (show (behF x v f).v = .agg #[.int .i64 0, .int .i64 f.a] by unfold behF; rw [if_pos h0]; unfold Ft.v; rw [h0])
    rw [h0] at c0
    clear h0
    go_wp2_with fail
    refine bodyPost_ret (results_cell_row rfl _ _ (w.heap.size + 1 + 1) 151 _ (0, 0) _ rfl (res2 (unhide hz) _ _) Tryd.underlying151 rfl Tryd.size151) rfl ?_
    exact ⟨by rw [unhide HR], below_two (unhide HBB) (by omega) _ _⟩
  have g0 : (f.k == 0) = false := by rw [beq_eq_false_iff_ne]; exact h0
  have HX := hide (show At4 w2 w.heap.size 0 x from ⟨q0, q1, q2, q3⟩)
  have HF2 := hide (show At2 w2 (w.heap.size + 1) 0 f from ⟨c0, c1⟩)
  have HR2 := hide (show At2 w2 (w.heap.size + 1 + 1) 0 f0 from ⟨r0, r1⟩)
  have hz2 : w.heap.size + 1 + 1 < w2.heap.size := (Array.getElem?_eq_some_iff.1 (unhide hz)).1
  by_cases h3 : f.k = 3
  · have g3 : (f.k == 3) = true := by rw [beq_iff_eq]; exact h3
    by_cases hwr : wrB x f.a = true
    · have HR := hide (show (behF x v f).v = .agg #[.int .i64 1, .int .i64 0] by unfold behF; rw [if_neg h0, if_pos ⟨h3, hwr⟩]; rfl)
      rw [hwr] at KW
      clear h0 h3 hwr
      go_upto_if 20 with (go_at_call 123; refine (unhide KW _).mono ?_; rintro e w3 ⟨rfl, hb3⟩)
      have hb3' : Below w2.heap.size w2 w3 := hb3
      have HZ3 : Hid (w3.heap[w.heap.size + 1 + 1]? = some (.cells #[.int .i64 0, .int .i64 0] 151 (0, 0))) := (hb3'.block _ hz2).trans (unhide hz)
      have HB3 : Hid (Below w.heap.size w w3) := (unhide HB).trans (hb3'.mono (unhide HB).size)
      have hfz3 : ∀ o, w3.frozen? ⟨w.heap.size + 1 + 1, o, none⟩ = false := fun o => by
        have h := unhide HZ3
        simp [World.frozen?, h]
      have hx3 := (unhide HX).below hb3' (by omega)
      have hf3 := (unhide HF2).below hb3' (by omega)
      have hr3 := (unhide HR2).below hb3' hz2
      clear hb3 hb3' q0 q1 q2 q3 c0 c1 r0 r1 hfz
      obtain ⟨q0, q1, q2, q3⟩ := hx3
      obtain ⟨c0, c1⟩ := hf3
      obtain ⟨r0, r1⟩ := hr3
      go_wp2_with fail
      refine bodyPost_ret (results_cell_row rfl _ _ (w.heap.size + 1 + 1) 151 _ (0, 0) _ rfl (res2 (unhide HZ3) _ _) Tryd.underlying151 rfl Tryd.size151) rfl ?_
      exact ⟨by rw [unhide HR], below_two (unhide HB3) (by omega) _ _⟩
    · have HBX := hide (show behF x v f = if (x.op = 12 ∨ x.op = 13 ∨ x.op = 14) ∧ x.d = v then (if x.op = 12 then ⟨3, x.a⟩ else if x.op = 13 then ⟨2, x.a⟩ else f1) else f by unfold behF; rw [if_neg h0, if_neg (fun h => hwr h.2)])
      have hwr' : wrB x f.a = false := by cases h : wrB x f.a; rfl; exact absurd h hwr
      rw [hwr'] at KW
      clear h0 h3 hwr hwr'
      go_upto_if 20 with (go_at_call 123; refine (unhide KW _).mono ?_; rintro e w3 ⟨rfl, hb3⟩)
      have hb3' : Below w2.heap.size w2 w3 := hb3
      have HZ3 : Hid (w3.heap[w.heap.size + 1 + 1]? = some (.cells #[.int .i64 0, .int .i64 0] 151 (0, 0))) := (hb3'.block _ hz2).trans (unhide hz)
      have HB3 : Hid (Below w.heap.size w w3) := (unhide HB).trans (hb3'.mono (unhide HB).size)
      have hfz3 : ∀ o, w3.frozen? ⟨w.heap.size + 1 + 1, o, none⟩ = false := fun o => by
        have h := unhide HZ3
        simp [World.frozen?, h]
      have hx3 := (unhide HX).below hb3' (by omega)
      have hf3 := (unhide HF2).below hb3' (by omega)
      have hr3 := (unhide HR2).below hb3' hz2
      clear hb3 hb3' q0 q1 q2 q3 c0 c1 r0 r1 hfz
      obtain ⟨q0, q1, q2, q3⟩ := hx3
      obtain ⟨c0, c1⟩ := hf3
      obtain ⟨r0, r1⟩ := hr3
      by_cases hn : (x.op = 12 ∨ x.op = 13 ∨ x.op = 14) ∧ x.d = v
      · obtain ⟨ho, hd⟩ := hn
        rw [hd] at q1
        rcases ho with ho | ho | ho
        · have HR := hide (show (behF x v f).v = .agg #[.int .i64 3, .int .i64 x.a] by rw [unhide HBX, if_pos ⟨by omega, hd⟩, if_pos ho]; rfl)
          rw [ho] at q0
          clear ho hd
          go_wp2_with fail
          refine bodyPost_ret (results_cell_row rfl _ _ (w.heap.size + 1 + 1) 151 _ (0, 0) _ rfl (res2 (unhide HZ3) _ _) Tryd.underlying151 rfl Tryd.size151) rfl ?_
          exact ⟨by rw [unhide HR], below_two (unhide HB3) (by omega) _ _⟩
        · have HR := hide (show (behF x v f).v = .agg #[.int .i64 2, .int .i64 x.a] by rw [unhide HBX, if_pos ⟨by omega, hd⟩, if_neg (by omega), if_pos ho]; rfl)
          rw [ho] at q0
          clear ho hd
          go_wp2_with fail
          refine bodyPost_ret (results_cell_row rfl _ _ (w.heap.size + 1 + 1) 151 _ (0, 0) _ rfl (res2 (unhide HZ3) _ _) Tryd.underlying151 rfl Tryd.size151) rfl ?_
          exact ⟨by rw [unhide HR], below_two (unhide HB3) (by omega) _ _⟩
        · have HR := hide (show (behF x v f).v = .agg #[.int .i64 1, .int .i64 0] by rw [unhide HBX, if_pos ⟨by omega, hd⟩, if_neg (by omega), if_neg (by omega)]; rfl)
          rw [ho] at q0
          clear ho hd
          go_wp2_with fail
          refine bodyPost_ret (results_cell_row rfl _ _ (w.heap.size + 1 + 1) 151 _ (0, 0) _ rfl (res2 (unhide HZ3) _ _) Tryd.underlying151 rfl Tryd.size151) rfl ?_
          exact ⟨by rw [unhide HR], below_two (unhide HB3) (by omega) _ _⟩
      · have HR := hide (show (behF x v f).v = .agg #[.int .i64 f.k, .int .i64 f.a] by rw [unhide HBX, if_neg hn]; rfl)
        by_cases hd : x.d = v
        · have ho12 : (x.op == 12) = false := by rw [beq_eq_false_iff_ne]; exact fun e => hn ⟨.inl e, hd⟩
          have ho13 : (x.op == 13) = false := by rw [beq_eq_false_iff_ne]; exact fun e => hn ⟨.inr (.inl e), hd⟩
          have ho14 : (x.op == 14) = false := by rw [beq_eq_false_iff_ne]; exact fun e => hn ⟨.inr (.inr e), hd⟩
          clear hn hd
          go_wp2_with fail
          refine bodyPost_ret (results_cell_row rfl _ _ (w.heap.size + 1 + 1) 151 _ (0, 0) _ rfl (res2 (unhide HZ3) _ _) Tryd.underlying151 rfl Tryd.size151) rfl ?_
          exact ⟨by rw [unhide HR], below_two (unhide HB3) (by omega) _ _⟩
        · have hdv : (x.d != v) = true := by rw [bne_iff_ne]; exact hd
          clear hn hd
          by_cases ho : x.op = 12 ∨ x.op = 13 ∨ x.op = 14
          · rcases ho with ho | ho | ho
            all_goals
              rw [ho] at q0
              clear ho
              go_wp2_with fail
              refine bodyPost_ret (results_cell_row rfl _ _ (w.heap.size + 1 + 1) 151 _ (0, 0) _ rfl (res2 (unhide HZ3) _ _) Tryd.underlying151 rfl Tryd.size151) rfl ?_
              exact ⟨by rw [unhide HR], below_two (unhide HB3) (by omega) _ _⟩
          · have ho12 : (x.op == 12) = false := by rw [beq_eq_false_iff_ne]; omega
            have ho13 : (x.op == 13) = false := by rw [beq_eq_false_iff_ne]; omega
            have ho14 : (x.op == 14) = false := by rw [beq_eq_false_iff_ne]; omega
            clear ho
            go_wp2_with fail
            refine bodyPost_ret (results_cell_row rfl _ _ (w.heap.size + 1 + 1) 151 _ (0, 0) _ rfl (res2 (unhide HZ3) _ _) Tryd.underlying151 rfl Tryd.size151) rfl ?_
            exact ⟨by rw [unhide HR], below_two (unhide HB3) (by omega) _ _⟩
  · have HBX := hide (show behF x v f = if (x.op = 12 ∨ x.op = 13 ∨ x.op = 14) ∧ x.d = v then (if x.op = 12 then ⟨3, x.a⟩ else if x.op = 13 then ⟨2, x.a⟩ else f1) else f by unfold behF; rw [if_neg h0, if_neg (fun h => h3 h.1)])
    have g3 : (f.k == 3) = false := by rw [beq_eq_false_iff_ne]; exact h3
    clear h0 h3
    go_upto_if 20 with fail
    by_cases hn : (x.op = 12 ∨ x.op = 13 ∨ x.op = 14) ∧ x.d = v
    · obtain ⟨ho, hd⟩ := hn
      rw [hd] at q1
      rcases ho with ho | ho | ho
      · have HR := hide (show (behF x v f).v = .agg #[.int .i64 3, .int .i64 x.a] by rw [unhide HBX, if_pos ⟨by omega, hd⟩, if_pos ho]; rfl)
        rw [ho] at q0
        clear ho hd
        go_wp2_with fail
        refine bodyPost_ret (results_cell_row rfl _ _ (w.heap.size + 1 + 1) 151 _ (0, 0) _ rfl (res2 (unhide hz) _ _) Tryd.underlying151 rfl Tryd.size151) rfl ?_
        exact ⟨by rw [unhide HR], below_two (unhide HBB) (by omega) _ _⟩
      · have HR := hide (show (behF x v f).v = .agg #[.int .i64 2, .int .i64 x.a] by rw [unhide HBX, if_pos ⟨by omega, hd⟩, if_neg (by omega), if_pos ho]; rfl)
        rw [ho] at q0
        clear ho hd
        go_wp2_with fail
        refine bodyPost_ret (results_cell_row rfl _ _ (w.heap.size + 1 + 1) 151 _ (0, 0) _ rfl (res2 (unhide hz) _ _) Tryd.underlying151 rfl Tryd.size151) rfl ?_
        exact ⟨by rw [unhide HR], below_two (unhide HBB) (by omega) _ _⟩
      · have HR := hide (show (behF x v f).v = .agg #[.int .i64 1, .int .i64 0] by rw [unhide HBX, if_pos ⟨by omega, hd⟩, if_neg (by omega), if_neg (by omega)]; rfl)
        rw [ho] at q0
        clear ho hd
        go_wp2_with fail
        refine bodyPost_ret (results_cell_row rfl _ _ (w.heap.size + 1 + 1) 151 _ (0, 0) _ rfl (res2 (unhide hz) _ _) Tryd.underlying151 rfl Tryd.size151) rfl ?_
        exact ⟨by rw [unhide HR], below_two (unhide HBB) (by omega) _ _⟩
    · have HR := hide (show (behF x v f).v = .agg #[.int .i64 f.k, .int .i64 f.a] by rw [unhide HBX, if_neg hn]; rfl)
      by_cases hd : x.d = v
      · have ho12 : (x.op == 12) = false := by rw [beq_eq_false_iff_ne]; exact fun e => hn ⟨.inl e, hd⟩
        have ho13 : (x.op == 13) = false := by rw [beq_eq_false_iff_ne]; exact fun e => hn ⟨.inr (.inl e), hd⟩
        have ho14 : (x.op == 14) = false := by rw [beq_eq_false_iff_ne]; exact fun e => hn ⟨.inr (.inr e), hd⟩
        clear hn hd
        go_wp2_with fail
        refine bodyPost_ret (results_cell_row rfl _ _ (w.heap.size + 1 + 1) 151 _ (0, 0) _ rfl (res2 (unhide hz) _ _) Tryd.underlying151 rfl Tryd.size151) rfl ?_
        exact ⟨by rw [unhide HR], below_two (unhide HBB) (by omega) _ _⟩
      · have hdv : (x.d != v) = true := by rw [bne_iff_ne]; exact hd
        clear hn hd
        by_cases ho : x.op = 12 ∨ x.op = 13 ∨ x.op = 14
        · rcases ho with ho | ho | ho
          all_goals
            rw [ho] at q0
            clear ho
            go_wp2_with fail
            refine bodyPost_ret (results_cell_row rfl _ _ (w.heap.size + 1 + 1) 151 _ (0, 0) _ rfl (res2 (unhide hz) _ _) Tryd.underlying151 rfl Tryd.size151) rfl ?_
            exact ⟨by rw [unhide HR], below_two (unhide HBB) (by omega) _ _⟩
        · have ho12 : (x.op == 12) = false := by rw [beq_eq_false_iff_ne]; omega
          have ho13 : (x.op == 13) = false := by rw [beq_eq_false_iff_ne]; omega
          have ho14 : (x.op == 14) = false := by rw [beq_eq_false_iff_ne]; omega
          clear ho
          go_wp2_with fail
          refine bodyPost_ret (results_cell_row rfl _ _ (w.heap.size + 1 + 1) 151 _ (0, 0) _ rfl (res2 (unhide hz) _ _) Tryd.underlying151 rfl Tryd.size151) rfl ?_
          exact ⟨by rw [unhide HR], below_two (unhide HBB) (by omega) _ _⟩
end Go.Proofs.YtoepcplbpochpaaDoor
