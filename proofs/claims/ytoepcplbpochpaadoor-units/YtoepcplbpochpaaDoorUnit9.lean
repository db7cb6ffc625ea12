/-
  What Get and getRange answer at a place of a string, by what stands there; and what tables a string can hold.
-/
import Derived.Test.YtoepcplbpochpaaDoorUnit8
import Derived.Test.YtoepcplbpochpaaDoorUnit6

namespace Go.Proofs.YtoepcplbpochpaaDoor
open Go.RowKit

/-- What stands in a string from a place on. -/
def D (s : ByteArray) (p : Nat) : List UInt8 := s.data.toList.drop p

theorem D_zero (s : ByteArray) : D s 0 = s.data.toList := rfl
theorem D_len (s : ByteArray) (p : Nat) : (D s p).length = s.size - p := by unfold D; rw [List.length_drop, ← Lib.size_eq]

theorem gives_or (s : ByteArray) (p : Nat) (hs : s.size ≤ maxLen) (hp : p ≤ s.size) :
    (∃ (x : Int) (q : Nat), Fine x ∧ D s p = encB x ++ D s q ∧ q ≤ s.size ∧ Gives s p x q) ∨ (getL (D s p) = none ∧ Fails s p) := by
  have hi : (p : Int) ≤ 9223372036854775807 := by unfold maxLen at hs; omega
  have G := fun w => get_any s (p : Int) w hs hi
  cases h : getL (D s p) with
  | none =>
    refine .inr ⟨rfl, fun w => ?_⟩
    have := G w
    rw [getR_none (k := p) h] at this
    exact this
  | some xj =>
    obtain ⟨x, j⟩ := xj
    obtain ⟨hf, hl, hj⟩ := getL_sound _ _ _ h
    have hq : p + j ≤ s.size := by
      have := congrArg List.length hl
      rw [List.length_append, List.length_drop, D_len, ← hj] at this
      omega
    refine .inl ⟨x, p + j, hf, ?_, hq, fun w => ?_⟩
    · rw [hl]; congr 1; unfold D; rw [List.drop_drop]
    · have := G w
      rw [getR_some (k := p) h] at this
      exact this

/-- A range as an aggregate. -/
def aggOf (r : Rg) : Value := .agg #[.int .i64 r.v, .int .i64 r.f, .int .i64 r.t, .int .i64 r.k, .int .i64 r.a]

/-- getRange at a place: a range and the place behind it; or no five numbers stand there. -/
theorem range_or (s : ByteArray) (p : Nat) (hs : s.size ≤ maxLen) (hp : p ≤ s.size) :
    (∃ (r : Rg) (q : Nat), (∀ x ∈ nums r, Fine x) ∧ D s p = bytesOf (nums r) ++ D s q ∧ q ≤ s.size ∧
      ∀ w, Calls Tryd.prog 89 #[.string s, .int .i64 p] w fun e w' => e = .returned (.tuple #[.agg #[.int .i64 r.v, .int .i64 r.f, .int .i64 r.t, .int .i64 r.k, .int .i64 r.a], .int .i64 q, .int .i64 0]) ∧ Below w.heap.size w w') ∨
    ((∀ ys t, ys.length = 5 → (∀ y ∈ ys, Fine y) → D s p ≠ bytesOf ys ++ t) ∧
      ∀ w, Calls Tryd.prog 89 #[.string s, .int .i64 p] w fun e w' => e = .returned (.tuple #[.agg #[.int .i64 0, .int .i64 0, .int .i64 0, .int .i64 0, .int .i64 0], .int .i64 0, .int .i64 14]) ∧ Below w.heap.size w w') := by
  rcases gives_or s p hs hp with ⟨x0, q1, f0, e0, l1, g0⟩ | ⟨n, b⟩
  case inr => exact .inr ⟨fun ys t hl hy h => none_short (xs := []) (by simp) hy (by simp; omega) h n, fun w => getRange_bad0 s _ w b⟩
  rcases gives_or s q1 hs l1 with ⟨x1, q2, f1, e1, l2, g1⟩ | ⟨n, b⟩
  case inr => exact .inr ⟨fun ys t hl hy h => none_short (xs := [x0]) (r := D s q1) (by simpa using f0) hy (by simp; omega) (by rw [← h, e0]; simp [bytesOf_cons, bytesOf_nil]) n, fun w => getRange_bad1 s _ _ _ w g0 b⟩
  rcases gives_or s q2 hs l2 with ⟨x2, q3, f2, e2, l3, g2⟩ | ⟨n, b⟩
  case inr => exact .inr ⟨fun ys t hl hy h => none_short (xs := [x0, x1]) (r := D s q2) (by simpa using ⟨f0, f1⟩) hy (by simp; omega) (by rw [← h, e0, e1]; simp [bytesOf_cons, bytesOf_nil]) n, fun w => getRange_bad2 s _ _ _ _ _ w g0 g1 b⟩
  rcases gives_or s q3 hs l3 with ⟨x3, q4, f3, e3, l4, g3⟩ | ⟨n, b⟩
  case inr => exact .inr ⟨fun ys t hl hy h => none_short (xs := [x0, x1, x2]) (r := D s q3) (by simpa using ⟨f0, f1, f2⟩) hy (by simp; omega) (by rw [← h, e0, e1, e2]; simp [bytesOf_cons, bytesOf_nil]) n, fun w => getRange_bad3 s _ _ _ _ _ _ _ w g0 g1 g2 b⟩
  rcases gives_or s q4 hs l4 with ⟨x4, q5, f4, e4, l5, g4⟩ | ⟨n, b⟩
  case inr => exact .inr ⟨fun ys t hl hy h => none_short (xs := [x0, x1, x2, x3]) (r := D s q4) (by simpa using ⟨f0, f1, f2, f3⟩) hy (by simp; omega) (by rw [← h, e0, e1, e2, e3]; simp [bytesOf_cons, bytesOf_nil]) n, fun w => getRange_bad4 s _ _ _ _ _ _ _ _ _ w g0 g1 g2 g3 b⟩
  have en : nums ⟨x0, x1, x1 + x2, x3, x4⟩ = [x0, x1, x2, x3, x4] := by unfold nums; simp; omega
  refine .inl ⟨⟨x0, x1, x1 + x2, x3, x4⟩, q5, ?_, ?_, l5, fun w => getRange_ok s _ _ _ _ _ _ _ _ _ _ _ w g0 g1 g2 g3 g4 f1 f2⟩
  · rw [en]; simpa using ⟨f0, f1, f2, f3, f4⟩
  · rw [en, e0, e1, e2, e3, e4]; simp [bytesOf_cons, bytesOf_nil]

/-! ### Which table a string holds -/
def TabS (s : ByteArray) (R : List Rg) : Prop := isTab R = true ∧ bytesOf (flat R) = s.data.toList

theorem flat_fine {R : List Rg} (h : isTab R = true) : ∀ x ∈ flat R, Fine x := by
  intro x hx
  unfold flat at hx
  rw [List.mem_cons, List.mem_flatMap] at hx
  rcases hx with rfl | ⟨r, hr, hx⟩
  · have := isTab_len h; exact ⟨by omega, by omega⟩
  · obtain ⟨k, hk, rfl⟩ := List.mem_iff_getElem.1 hr
    have e : R[k] = rg R k := by unfold rg; rw [List.getD_eq_getElem?_getD, List.getElem?_eq_getElem hk]; rfl
    rw [e] at hx
    have ok := nums_ok (isTab_rg h hk)
    obtain ⟨i, hi, rfl⟩ := List.mem_iff_getElem.1 hx
    have := ok i hi
    unfold nth at this
    rw [List.getD_eq_getElem?_getD, List.getElem?_eq_getElem hi] at this
    have h2 : 0 ≤ (nums (rg R k))[i] ∧ (nums (rg R k))[i] ≤ 65535 := this
    exact ⟨h2.1, by omega⟩

theorem nums_inj {r q : Rg} (h : nums r = nums q) : r = q := by
  unfold nums at h
  simp only [List.cons.injEq, and_true] at h
  obtain ⟨a, b, c, d, e⟩ := h
  obtain ⟨v, f, t, k, x⟩ := r
  obtain ⟨v2, f2, t2, k2, x2⟩ := q
  simp only [Rg.mk.injEq] at *
  omega

theorem flatMap_inj : ∀ {P Q : List Rg}, P.flatMap nums = Q.flatMap nums → P = Q
  | [], [], _ => rfl
  | [], q :: Q, h => by have := congrArg List.length h; rw [flatMap_len, flatMap_len] at this; simp at this
  | p :: P, [], h => by have := congrArg List.length h; rw [flatMap_len, flatMap_len] at this; simp at this
  | p :: P, q :: Q, h => by
    rw [List.flatMap_cons, List.flatMap_cons] at h
    obtain ⟨h1, h2⟩ := List.append_inj h rfl
    rw [nums_inj h1, flatMap_inj h2]

theorem tab_uniq {s : ByteArray} {P Q : List Rg} (hp : TabS s P) (hq : TabS s Q) : P = Q := by
  have := bytesOf_inj (flat_fine hp.1) (flat_fine hq.1) (hp.2.trans hq.2.symm)
  unfold flat at this
  exact flatMap_inj (List.cons.inj this).2

/-- A table begins with its length. -/
theorem tab_head {s : ByteArray} {R : List Rg} (h : TabS s R) : getL s.data.toList = some ((R.length : Int), (encB (R.length : Int)).length) := by
  rw [← h.2]; unfold flat; rw [bytesOf_cons]
  exact getL_enc (flat_fine h.1 _ (by simp [flat])) _

/-- So far as it is read: count, then the ranges Q, then what is left from p on. -/
def ReadTo (s : ByteArray) (count : Int) (Q : List Rg) (p : Nat) : Prop :=
  s.data.toList = encB count ++ (bytesOf (Q.flatMap nums) ++ D s p) ∧ (∀ r ∈ Q, ∀ x ∈ nums r, Fine x) ∧ Fine count

theorem read_fine {s : ByteArray} {count : Int} {Q : List Rg} {p : Nat} (h : ReadTo s count Q p) : ∀ x ∈ count :: Q.flatMap nums, Fine x := by
  intro x hx
  rw [List.mem_cons, List.mem_flatMap] at hx
  rcases hx with rfl | ⟨r, hr, hx⟩
  · exact h.2.2
  · exact h.2.1 r hr x hx

theorem tab_rest {s : ByteArray} {count : Int} {Q R : List Rg} {p : Nat} (h : ReadTo s count Q p) (ht : TabS s R) (hl : (Q.length : Int) ≤ count) :
    (R.length : Int) = count ∧ ∃ zs, R.flatMap nums = Q.flatMap nums ++ zs ∧ D s p = bytesOf zs ∧ ∀ x ∈ zs, Fine x := by
  have e1 := tab_head ht
  rw [h.1, getL_enc h.2.2] at e1
  have ec : count = (R.length : Int) := (Prod.mk.inj (Option.some.inj e1)).1
  have e2 : bytesOf (count :: Q.flatMap nums) ++ D s p = bytesOf (flat R) ++ [] := by
    rw [List.append_nil, ht.2, h.1, bytesOf_cons, List.append_assoc]
  obtain ⟨zs, e3, e4⟩ := uniq _ _ _ _ (read_fine h) (flat_fine ht.1) (by
    unfold flat; rw [List.length_cons, List.length_cons, flatMap_len, flatMap_len]; omega) e2
  refine ⟨ec.symm, zs, ?_, by simpa using e4, fun x hx => flat_fine ht.1 x (by rw [e3]; simp [hx])⟩
  unfold flat at e3
  exact (List.cons.inj e3).2

theorem read_bad {s : ByteArray} {count : Int} {Q : List Rg} {p : Nat} (h : ReadTo s count Q p) (hl : (Q.length : Int) < count)
    (hb : ∀ ys t, ys.length = 5 → (∀ y ∈ ys, Fine y) → D s p ≠ bytesOf ys ++ t) : ∀ R, ¬ TabS s R := by
  intro R ht
  obtain ⟨ec, zs, e1, e2, hf⟩ := tab_rest h ht (by omega)
  have hz : 5 ≤ zs.length := by
    have := congrArg List.length e1
    rw [List.length_append, flatMap_len, flatMap_len] at this; omega
  refine hb (zs.take 5) (bytesOf (zs.drop 5)) (by rw [List.length_take]; omega) (fun y hy => hf y (List.mem_of_mem_take hy)) ?_
  rw [e2, ← bytesOf_app, List.take_append_drop]

theorem read_end {s : ByteArray} {count : Int} {Q R : List Rg} {p : Nat} (h : ReadTo s count Q p) (hl : (Q.length : Int) = count) (ht : TabS s R) : R = Q ∧ D s p = [] := by
  obtain ⟨ec, zs, e1, e2, hf⟩ := tab_rest h ht (by omega)
  have hz : zs = [] := by
    have := congrArg List.length e1
    rw [List.length_append, flatMap_len, flatMap_len] at this
    exact List.length_eq_zero_iff.1 (by omega)
  subst hz
  rw [List.append_nil] at e1
  exact ⟨flatMap_inj e1, by rw [e2]; rfl⟩

theorem read_next {s : ByteArray} {count : Int} {Q : List Rg} {p q : Nat} {r : Rg} (h : ReadTo s count Q p) (hr : ∀ x ∈ nums r, Fine x) (e : D s p = bytesOf (nums r) ++ D s q) : ReadTo s count (Q ++ [r]) q := by
  refine ⟨?_, ?_, h.2.2⟩
  · rw [h.1, e, List.flatMap_append, bytesOf_app, List.append_assoc]; simp
  · intro x hx
    rw [List.mem_append, List.mem_singleton] at hx
    rcases hx with hx | rfl
    · exact h.2.1 x hx
    · exact hr

theorem read_tab {s : ByteArray} {count : Int} {Q : List Rg} {p : Nat} (h : ReadTo s count Q p) (hl : (Q.length : Int) = count) (hp : D s p = []) (ht : isTab Q = true) : TabS s Q := by
  refine ⟨ht, ?_⟩
  rw [h.1, hp, List.append_nil, ← hl]
  rfl

end Go.Proofs.YtoepcplbpochpaaDoor

/-
  What lodgeref.Encode answers, of every list of ranges: just what leb.Encode answers.
-/
namespace Go.Proofs.YtoepcplbpochpaaDoor
open Go.RowKit

theorem Tryd.intInfo : (Tryd.prog.info? 3).map (fun i => (i.zero, i.size, i.bytes)) = some (some (.int .i64 0), 1, 8) := by kernel_rfl

/-- A slice that was just laid out is owned. -/
theorem own_new (w : World) (base : Nat) (e : TypeId) (xs : List Value) (hb : base ≤ w.heap.size) (hl : xs.length ≤ maxLen) :
    (w.alloc (.cells xs.toArray e)).ownsRow base e 1 (.slice (some ⟨w.heap.size, 0, none⟩) xs.length xs.length) xs.length xs := by
  refine ⟨by simp, .inr ⟨w.heap.size, xs.length, xs.toArray, rfl, hb, ?_, Nat.le_refl _, hl, by simp, by simp⟩⟩
  exact heap_alloc_new _ _

theorem cells_new (w : World) (n : Nat) (hn : n = w.heap.size) (e : TypeId) (xs : List Value) :
    ∀ j u, xs[j]? = some u → (w.alloc (.cells xs.toArray e)).cell? ((⟨n, 0, none⟩ : Addr).add j) = some u := by
  intro j u hj
  have : (⟨n, 0, none⟩ : Addr).add j = ⟨n, j, none⟩ := by unfold Addr.add; split <;> simp_all
  rw [this, World.cell?_alloc_at (hn := hn)]
  simpa using hj

theorem own_lt {w : World} {base n cap g : Nat} {e : TypeId} {xs : List Value} (h : w.ownsRow base e 1 (.slice (some ⟨g, 0, none⟩) n cap) n xs) : g < w.heap.size := by
  rcases h.2 with ⟨h, _⟩ | ⟨g', cap', cur, h, _, hh, _⟩
  · simp at h
  · simp only [Value.slice.injEq, Option.some.injEq, Addr.mk.injEq, and_true, true_and] at h
    obtain ⟨rfl, rfl⟩ := h
    exact (Array.getElem?_eq_some_iff.1 hh).1

theorem flat_ok {R : List Rg} (h : isTab R = true) : ∀ x ∈ flat R, 0 ≤ x ∧ x ≤ 65535 := by
  intro x hx
  unfold flat at hx
  rw [List.mem_cons, List.mem_flatMap] at hx
  rcases hx with rfl | ⟨r, hr, hx⟩
  · have := isTab_len h; omega
  · obtain ⟨k, hk, rfl⟩ := List.mem_iff_getElem.1 hr
    have e : R[k] = rg R k := by unfold rg; rw [List.getD_eq_getElem?_getD, List.getElem?_eq_getElem hk]; rfl
    rw [e] at hx
    have ok := nums_ok (isTab_rg h hk)
    obtain ⟨i, hi, rfl⟩ := List.mem_iff_getElem.1 hx
    have := ok i hi
    unfold nth at this
    rw [List.getD_eq_getElem?_getD, List.getElem?_eq_getElem hi] at this
    exact this

set_option maxRecDepth 100000 in
set_option maxHeartbeats 1000000 in
theorem refEncode_any (R : List Rg) (ao : Option Addr) (cap : Nat) (w : World) (hH : Held w ao R) (hlen : R.length ≤ 9223372036854775807) :
    Calls Tryd.prog 93 #[.slice ao R.length cap] w fun e w' => e = .returned (encV R) ∧ Below w.heap.size w w' := by
  have T := hide (fun w (h : Held w ao R) => refTable_any R ao cap w h hlen)
  obtain ⟨i0, hi, hz0, hz1, hz2⟩ := info_parts Tryd.intInfo
  cases ht : isTab R
  · rw [encV_no ht]
    rw [ht] at T
    clear ht
    go_enter Tryd.func93, Tryd.ntmps93
    go_wp2_with fail
    refine (unhide T _ hH).mono ?_
    rintro e w1 ⟨rfl, hb1⟩
    go_wp2
    go_ret2
    exact ⟨rfl, hb1⟩
  · rw [encV_yes ht]
    rw [ht] at T
    have HT := hide ht
    have h200 := isTab_len ht
    clear ht
    go_enter Tryd.func93, Tryd.ntmps93
    go_wp2_with fail
    refine (unhide T _ hH).mono ?_
    rintro e w1 ⟨rfl, hb1⟩
    go_wp2_with fail
    go_loopw [5, 6, 7] (fun v i _ wr => ∃ k : Nat, k ≤ R.length ∧ i = .int .i64 k ∧ wr.ownsRow w.heap.size 3 1 v (flatTo R k).length ((flatTo R k).map (Value.int .i64)) ∧ Below w.heap.size w wr) (fun _ i _ _ => R.length - (intOf i).toNat)
    case atStart => exact ⟨0, Nat.zero_le _, rfl, own_new w1 w.heap.size 3 [.int .i64 (R.length : Int)] hb1.size (by show 1 ≤ maxLen; decide), hb1.alloc hb1.size _⟩
    case round =>
      obtain ⟨k, hk, rfl, hown, hbel⟩ := hrel
      have hB := hbel.size
      have hfl := flatTo_len R k
      by_cases hlt : k < R.length
      · have hrg := isTab_rg (unhide HT) hlt
        unfold isRg at hrg
        rw [decide_eq_true_eq] at hrg
        obtain ⟨g1, g2, g3, g4, g5, g6, g7, g8, g9⟩ := hrg
        have HS := hide (flatTo_succ R k hlt)
        obtain ⟨b, off, rfl, hb, hl⟩ : ∃ b off, ao = some ⟨b, off, none⟩ ∧ b < w.heap.size ∧ Lie w b off R := by
          rcases hH with h | h
          · subst h; exact absurd hlt (by simp)
          · exact h
        obtain ⟨c0, c1, c2, c3, c4⟩ := (hl k hlt).below hbel hb
        go_wp2_with (at_builtin; refine wpList_append_own _ rfl _ _ 32 rfl w.heap.size 3 i0 (.int .i64 0) 1 8 Tryd.underlying32 hi hz0 hz1 hz2 rfl (by decide) _ _ _ rfl ((hown.alloc _).alloc _) ⟨wr.heap.size + 1, 0, none⟩ 5 5 [.int .i64 (rg R k).v, .int .i64 (rg R k).f, .int .i64 ((rg R k).t - (rg R k).f), .int .i64 (rg R k).k, .int .i64 (rg R k).a] rfl rfl ?c1 ?c2 ?c3 ?c4 ?c5 ?_)
        case c1 => exact cells_new _ _ (by simp) 3 _
        case c2 => intro u hu; simp only [List.mem_cons, List.not_mem_nil, or_false] at hu; rcases hu with rfl | rfl | rfl | rfl | rfl <;> rfl
        case c3 => unfold maxLen; omega
        case c4 => omega
        case c5 => simp; omega
        intro v' w2 hown' hgrow _
        have hb2 : Below w.heap.size w w2 := ((hbel.alloc hbel.size _).alloc (by simp; omega) _).grown hgrow (by simp; omega) (own_ge hown)
        have hO : w2.ownsRow w.heap.size 3 1 v' (flatTo R (k + 1)).length ((flatTo R (k + 1)).map (Value.int .i64)) := by
          rw [unhide HS, List.length_append, List.map_append]; exact hown'
        clear hgrow hown' hown
        go_wp2
        go_roundw
        case rel => exact ⟨k + 1, by omega, by go_num, hO, hb2⟩
        case measure => simp [intOf]; omega
      · have hk' : k = R.length := by omega
        have e := (show flatTo R k = flat R by rw [hk', flatTo_end])
        rw [e] at hown hfl
        have hl1 : 1 ≤ (flat R).length := by unfold flat; simp
        obtain ⟨g, cap', rfl⟩ : ∃ g cap', u5 = .slice (some ⟨g, 0, none⟩) (flat R).length cap' := by
          rcases hown.2 with ⟨_, h⟩ | ⟨g, cap', cur, h, _⟩
          · omega
          · exact ⟨g, cap', h⟩
        have hW := hide (fun w hb hc => written_any (flat R) g 0 cap' w (by omega) hb hc (fun i hi => by
          have := flat_ok (unhide HT) (flat R)[i] (List.getElem_mem hi)
          unfold nth; rw [List.getD_eq_getElem?_getD, List.getElem?_eq_getElem hi]
          exact ⟨this.1, by have := this.2; simp only [Option.getD_some]; omega⟩))
        have hlt' := own_lt hown
        have hcl : ∀ i, i < (flat R).length → wr.cell? ⟨g, 0 + i, none⟩ = some (.int .i64 (nth (flat R) i)) := fun i hi => by
          rw [Nat.zero_add, hown.cellAt i (by omega)]
          unfold nth; rw [List.getD_eq_getElem?_getD, List.getElem?_map, List.getElem?_eq_getElem hi]; rfl
        have HC := hide hcl
        clear hk' e hown hcl
        go_wp2_with fail
        refine (unhide hW _ hlt' (unhide HC)).mono ?_
        rintro e w2 ⟨rfl, hb2⟩
        go_wp2
        go_ret2
        exact ⟨rfl, hbel.trans (hb2.mono hbel.size)⟩
end Go.Proofs.YtoepcplbpochpaaDoor
