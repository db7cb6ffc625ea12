/-
  What lodgeref.Encode answers, of every list of ranges: just what leb.Encode answers.
-/
import Derived.Test.YtoepcplbpochpaaDoorPart9
import Derived.Test.YtoepcplbpochpaaDoorPart7
import Derived.Test.YtoepcplbpochpaaDoorPart8

namespace Go.Proofs.YtoepcplbpochpaaDoor
open Go.RowKit

theorem Tryd.intInfo : (Tryd.prog.info? 3).map (fun i => (i.zero, i.size, i.bytes)) = some (some (.int .i64 0), 1, 8) := by kernel_rfl

/-- A slice that was just laid out is owned. -/
theorem own_new (w : World) (base : Nat) (e : TypeId) (xs : List Value) (hb : base ≤ w.heap.size) (hl : xs.length ≤ maxLen) :
    (w.alloc (.cells xs.toArray e)).ownsRow base e 1 (.slice (some ⟨w.heap.size, 0, none⟩) xs.length xs.length) xs.length xs := by
  refine ⟨by simp, .inr ⟨w.heap.size, xs.length, xs.toArray, rfl, hb, ?_, Nat.le_refl _, hl, by simp, by simp⟩⟩
  exact heap_alloc_new _ _

theorem cells_new (w : World) (n : Nat) (hn : n = w.heap.size) (e : TypeId) (xs : List Value) :
    ∀ j u, xs[j]? = some u → (w.alloc (.cells xs.toArray e)).cell? ((⟨n, 0, none⟩ : Addr).add j) = some u := by
  intro j u hj
  have : (⟨n, 0, none⟩ : Addr).add j = ⟨n, j, none⟩ := by unfold Addr.add; split <;> simp_all
  rw [this, World.cell?_alloc_at (hn := hn)]
  simpa using hj

theorem own_lt {w : World} {base n cap g : Nat} {e : TypeId} {xs : List Value} (h : w.ownsRow base e 1 (.slice (some ⟨g, 0, none⟩) n cap) n xs) : g < w.heap.size := by
  rcases h.2 with ⟨h, _⟩ | ⟨g', cap', cur, h, _, hh, _⟩
  · simp at h
  · simp only [Value.slice.injEq, Option.some.injEq, Addr.mk.injEq, and_true, true_and] at h
    obtain ⟨rfl, rfl⟩ := h
    exact (Array.getElem?_eq_some_iff.1 hh).1

theorem flat_ok {R : List Rg} (h : isTab R = true) : ∀ x ∈ flat R, 0 ≤ x ∧ x ≤ 65535 := by
  intro x hx
  unfold flat at hx
  rw [List.mem_cons, List.mem_flatMap] at hx
  rcases hx with rfl | ⟨r, hr, hx⟩
  · have := isTab_len h; omega
  · obtain ⟨k, hk, rfl⟩ := List.mem_iff_getElem.1 hr
    have e : R[k] = rg R k := by unfold rg; rw [List.getD_eq_getElem?_getD, List.getElem?_eq_getElem hk]; rfl
    rw [e] at hx
    have ok := nums_ok (isTab_rg h hk)
    obtain ⟨i, hi, rfl⟩ := List.mem_iff_getElem.1 hx
    have := ok i hi
    unfold nth at this
    rw [List.getD_eq_getElem?_getD, List.getElem?_eq_getElem hi] at this
    exact this

set_option maxRecDepth 100000 in
set_option maxHeartbeats 1000000 in
theorem refEncode_any (R : List Rg) (ao : Option Addr) (cap : Nat) (w : World) (hH : Held w ao R) (hlen : R.length ≤ 9223372036854775807) :
    Calls Tryd.prog 93 #[.slice ao R.length cap] w fun e w' => e = .returned (encV R) ∧ Below w.heap.size w w' := by
  have T := hide (fun w (h : Held w ao R) => refTable_any R ao cap w h hlen)
  obtain ⟨i0, hi, hz0, hz1, hz2⟩ := info_parts Tryd.intInfo
  cases ht : isTab R
  · rw [encV_no ht]
    rw [ht] at T
    clear ht
    go_enter Tryd.func93, Tryd.ntmps93
    go_wp2_with fail
    refine (unhide T _ hH).mono ?_
    rintro e w1 ⟨rfl, hb1⟩
    go_wp2
    go_ret2
    exact ⟨rfl, hb1⟩
  · rw [encV_yes ht]
    rw [ht] at T
    have HT := hide ht
    have h200 := isTab_len ht
    clear ht
    go_enter Tryd.func93, Tryd.ntmps93
    go_wp2_with fail
    refine (unhide T _ hH).mono ?_
    rintro e w1 ⟨rfl, hb1⟩
    go_wp2_with fail
    go_loopw [5, 6, 7] (fun v i _ wr => ∃ k : Nat, k ≤ R.length ∧ i = .int .i64 k ∧ wr.ownsRow w.heap.size 3 1 v (flatTo R k).length ((flatTo R k).map (Value.int .i64)) ∧ Below w.heap.size w wr) (fun _ i _ _ => R.length - (intOf i).toNat)
    case atStart => exact ⟨0, Nat.zero_le _, rfl, own_new w1 w.heap.size 3 [.int .i64 (R.length : Int)] hb1.size (by show 1 ≤ maxLen; decide), hb1.alloc hb1.size _⟩
    case round =>
      obtain ⟨k, hk, rfl, hown, hbel⟩ := hrel
      have hB := hbel.size
      have hfl := flatTo_len R k
      by_cases hlt : k < R.length
      · have hrg := isTab_rg (unhide HT) hlt
        unfold isRg at hrg
        rw [decide_eq_true_eq] at hrg
        obtain ⟨g1, g2, g3, g4, g5, g6, g7, g8, g9⟩ := hrg
        have HS := hide (flatTo_succ R k hlt)
        obtain ⟨b, off, rfl, hb, hl⟩ : ∃ b off, ao = some ⟨b, off, none⟩ ∧ b < w.heap.size ∧ Lie w b off R := by
          rcases hH with h | h
          · subst h; exact absurd hlt (by simp)
          · exact h
        obtain ⟨c0, c1, c2, c3, c4⟩ := (hl k hlt).below hbel hb
        go_wp2_with (at_builtin; refine wpList_append_own _ rfl _ _ 32 rfl w.heap.size 3 i0 (.int .i64 0) 1 8 Tryd.underlying32 hi hz0 hz1 hz2 rfl (by decide) _ _ _ rfl ((hown.alloc _).alloc _) ⟨wr.heap.size + 1, 0, none⟩ 5 5 [.int .i64 (rg R k).v, .int .i64 (rg R k).f, .int .i64 ((rg R k).t - (rg R k).f), .int .i64 (rg R k).k, .int .i64 (rg R k).a] rfl rfl ?c1 ?c2 ?c3 ?c4 ?c5 ?_)
        case c1 => exact cells_new _ _ (by simp) 3 _
        case c2 => intro u hu; simp only [List.mem_cons, List.not_mem_nil, or_false] at hu; rcases hu with rfl | rfl | rfl | rfl | rfl <;> rfl
        case c3 => unfold maxLen; omega
        case c4 => omega
        case c5 => simp; omega
        intro v' w2 hown' hgrow _
        have hb2 : Below w.heap.size w w2 := ((hbel.alloc hbel.size _).alloc (by simp; omega) _).grown hgrow (by simp; omega) (own_ge hown)
        have hO : w2.ownsRow w.heap.size 3 1 v' (flatTo R (k + 1)).length ((flatTo R (k + 1)).map (Value.int .i64)) := by
          rw [unhide HS, List.length_append, List.map_append]; exact hown'
        clear hgrow hown' hown
        go_wp2
        go_roundw
        case rel => exact ⟨k + 1, by omega, by go_num, hO, hb2⟩
        case measure => simp [intOf]; omega
      · have hk' : k = R.length := by omega
        have e := (show flatTo R k = flat R by rw [hk', flatTo_end])
        rw [e] at hown hfl
        have hl1 : 1 ≤ (flat R).length := by unfold flat; simp
        obtain ⟨g, cap', rfl⟩ : ∃ g cap', u5 = .slice (some ⟨g, 0, none⟩) (flat R).length cap' := by
          rcases hown.2 with ⟨_, h⟩ | ⟨g, cap', cur, h, _⟩
          · omega
          · exact ⟨g, cap', h⟩
        have hW := hide (fun w hb hc => written_any (flat R) g 0 cap' w (by omega) hb hc (fun i hi => by
          have := flat_ok (unhide HT) (flat R)[i] (List.getElem_mem hi)
          unfold nth; rw [List.getD_eq_getElem?_getD, List.getElem?_eq_getElem hi]
          exact ⟨this.1, by have := this.2; simp only [Option.getD_some]; omega⟩))
        have hlt' := own_lt hown
        have hcl : ∀ i, i < (flat R).length → wr.cell? ⟨g, 0 + i, none⟩ = some (.int .i64 (nth (flat R) i)) := fun i hi => by
          rw [Nat.zero_add, hown.cellAt i (by omega)]
          unfold nth; rw [List.getD_eq_getElem?_getD, List.getElem?_map, List.getElem?_eq_getElem hi]; rfl
        have HC := hide hcl
        clear hk' e hown hcl
        go_wp2_with fail
        refine (unhide hW _ hlt' (unhide HC)).mono ?_
        rintro e w2 ⟨rfl, hb2⟩
        go_wp2
        go_ret2
        exact ⟨rfl, hbel.trans (hb2.mono hbel.size)⟩
end Go.Proofs.YtoepcplbpochpaaDoor

/-
  What leb.Decode answers, of every string: the table that it holds, fresh; or that it holds none.
-/
namespace Go.Proofs.YtoepcplbpochpaaDoor
open Go.RowKit

theorem Tryd.info132 : (Tryd.prog.info? 132).map (fun i => (i.zero, i.size, i.bytes)) = some (some (.agg #[.int .i64 0, .int .i64 0, .int .i64 0, .int .i64 0, .int .i64 0]), 5, 40) := by kernel_rfl

/-- The cells of a list of ranges. -/
def cellsOf (R : List Rg) : List Value := R.flatMap Rg.cells
theorem cellsOf_len (R : List Rg) : (cellsOf R).length = R.length * 5 := by
  unfold cellsOf
  induction R with
  | nil => rfl
  | cons r R ih => rw [List.flatMap_cons, List.length_append, ih, List.length_cons]; show 5 + _ = _; omega
theorem cellsOf_snoc (R : List Rg) (r : Rg) : cellsOf (R ++ [r]) = cellsOf R ++ r.cells := by unfold cellsOf; rw [List.flatMap_append]; simp

theorem cellsOf_at : ∀ (R : List Rg) (i : Nat), i < R.length → ∀ j, j < 5 → (cellsOf R)[i * 5 + j]? = (rg R i).cells[j]?
  | [], i, h, _, _ => absurd h (by simp)
  | r :: R, 0, _, j, hj => by
    unfold cellsOf; rw [List.flatMap_cons, Nat.zero_mul, Nat.zero_add, List.getElem?_append_left (by exact hj)]; rfl
  | r :: R, i + 1, h, j, hj => by
    have ih := cellsOf_at R i (by simpa using h) j hj
    unfold cellsOf at *
    rw [List.flatMap_cons, List.getElem?_append_right (by show 5 ≤ _; omega), show (i + 1) * 5 + j - r.cells.length = i * 5 + j by show _ - 5 = _; omega, ih]
    rfl

/-- What is owned stays owned behind a call that leaves old blocks alone. -/
theorem own_below {w w' : World} {base : Nat} {e : TypeId} {size n : Nat} {v : Value} {xs : List Value} (h : w.ownsRow base e size v n xs) (hb : Below w.heap.size w w') : w'.ownsRow base e size v n xs := by
  refine ⟨h.1, ?_⟩
  rcases h.2 with h2 | ⟨g, cap, cur, h1, h2, h3, h4⟩
  · exact .inl h2
  · exact .inr ⟨g, cap, cur, h1, h2, by rw [hb.block g (Array.getElem?_eq_some_iff.1 h3).1]; exact h3, h4⟩

/-- What is owned from a higher block on is owned from a lower one on. -/
theorem own_weakR {w : World} {base base' : Nat} {e : TypeId} {size n : Nat} {v : Value} {xs : List Value} (h : w.ownsRow base' e size v n xs) (hb : base ≤ base') : w.ownsRow base e size v n xs := by
  refine ⟨h.1, ?_⟩
  rcases h.2 with h2 | ⟨g, cap, cur, h1, h2, h3⟩
  · exact .inl h2
  · exact .inr ⟨g, cap, cur, h1, Nat.le_trans hb h2, h3⟩

/-- What is owned is held: the slice's own address, as the walks ask it. -/
theorem own_held {w : World} {base : Nat} {v : Value} {R : List Rg} (h : w.ownsRow base 132 5 v R.length (cellsOf R)) :
    ∃ ao cap, v = .slice ao R.length cap ∧ Held w ao R ∧ R.length ≤ maxLen ∧ (ao = none → cap = 0) ∧ (∀ g o sp, ao = some ⟨g, o, sp⟩ → base ≤ g ∧ g < w.heap.size) := by
  rcases h.2 with ⟨rfl, h0⟩ | ⟨g, cap, cur, rfl, h2, h3, h4, h5, h6, h7⟩
  · have : R = [] := List.length_eq_zero_iff.1 h0
    subst this
    exact ⟨none, 0, rfl, .inl rfl, by decide, fun _ => rfl, fun g o sp h => by cases h⟩
  · refine ⟨some ⟨g, 0, none⟩, cap, rfl, .inr ⟨g, 0, rfl, (Array.getElem?_eq_some_iff.1 h3).1, ?_⟩, by omega, fun h => (by cases h), fun g' o sp h => (by cases h; exact ⟨h2, (Array.getElem?_eq_some_iff.1 h3).1⟩)⟩
    intro i hi
    have key : ∀ j, j < 5 → w.cell? ⟨g, i * 5 + j, none⟩ = (rg R i).cells[j]? := fun j hj => by
      rw [h.cellAt (i * 5 + j) (by omega), cellsOf_at R i hi j hj]
    rw [Nat.zero_add]
    exact ⟨key 0 (by decide), key 1 (by decide), key 2 (by decide), key 3 (by decide), key 4 (by decide)⟩

/-- What Decode answers. -/
def DecPost (s : ByteArray) (w : World) (e : Ending) (w' : World) : Prop :=
  Below w.heap.size w w' ∧ ((∃ R v, TabS s R ∧ e = .returned (.tuple #[v, .int .i64 0]) ∧ w'.ownsRow w.heap.size 132 5 v R.length (cellsOf R)) ∨
    ((∀ R, ¬ TabS s R) ∧ e = .returned (.tuple #[.slice none 0 0, .int .i64 14])))

set_option maxRecDepth 100000 in
set_option maxHeartbeats 1000000 in
theorem decode_loop (s : ByteArray) (w : World) (hs : s.size ≤ maxLen) (count : Nat) (p0 : Nat) (hc : count ≤ 200) (hp0 : p0 ≤ s.size) (h0 : ReadTo s count [] p0) (G : Gives s 0 count p0) :
    Calls Tryd.prog 57 #[.string s] w fun e w' => DecPost s w e w' := by
  obtain ⟨i0, hi, hz0, hz1, hz2⟩ := info_parts Tryd.info132
  unfold maxLen at hs
  go_enter Tryd.func57, Tryd.ntmps57
  go_wp2_with fail
  refine (G _).mono ?_
  rintro e w' ⟨rfl, hw⟩
  subst hw
  go_wp2_with fail
  go_loopw [5, 7, 8] (fun a v i wr => ∃ (k p : Nat) (Q : List Rg), k ≤ count ∧ i = .int .i64 k ∧ a = .int .i64 p ∧ p ≤ s.size ∧ Q.length = k ∧ ReadTo s count Q p ∧ wr.ownsRow w'.heap.size 132 5 v k (cellsOf Q) ∧ Below w'.heap.size w' wr) (fun _ _ i _ => count - (intOf i).toNat)
  case atStart => exact ⟨0, p0, [], Nat.zero_le _, rfl, rfl, hp0, rfl, h0, World.ownsRow_nil _ _ _ _, Below.refl _ _⟩
  case round =>
    obtain ⟨k, p, Q, hk, rfl, rfl, hp, hQ, hread, hown, hbel⟩ := hrel
    have HQ := hide hQ
    have HR := hide hread
    have hB := hbel.size
    clear hQ hread
    by_cases hlt : k < count
    · rcases range_or s p hs hp with ⟨r, q, hr, he, hq, C⟩ | ⟨hno, C⟩
      · have hn := hide (read_next (unhide HR) hr he)
        have CC := hide C
        clear C hr he
        go_wp2_with fail
        refine (unhide CC _).mono ?_
        rintro e w1 ⟨rfl, hb1⟩
        have hB1 := hb1.size
        have hown1 := own_below hown hb1
        clear hown
        go_wp2_with (at_builtin; refine wpList_append_own _ rfl _ _ 93 rfl w'.heap.size 132 i0 (.agg #[.int .i64 0, .int .i64 0, .int .i64 0, .int .i64 0, .int .i64 0]) 5 40 Tryd.underlying93 hi hz0 hz1 hz2 rfl (by decide) _ _ _ rfl ((hown1.alloc _).alloc _) ⟨w1.heap.size + 1, 0, none⟩ 1 1 [.int .i64 r.v, .int .i64 r.f, .int .i64 r.t, .int .i64 r.k, .int .i64 r.a] rfl rfl ?c1 ?c2 ?c3 ?c4 ?c5 ?_)
        case c1 => exact cells_new _ _ (by simp) 132 _
        case c2 => intro u hu; simp only [List.mem_cons, List.not_mem_nil, or_false] at hu; rcases hu with rfl | rfl | rfl | rfl | rfl <;> rfl
        case c3 => unfold maxLen; omega
        case c4 => omega
        case c5 => simp; omega
        intro v' w2 hown' hgrow _
        have hb2 : Below w'.heap.size w' w2 := (((hbel.trans (hb1.mono hbel.size)).alloc (by omega) _).alloc (by simp; omega) _).grown hgrow (by simp; omega) (own_ge hown1)
        have hO : w2.ownsRow w'.heap.size 132 5 v' (k + 1) (cellsOf (Q ++ [r])) := by rw [cellsOf_snoc]; exact hown'
        clear hgrow hown' hown1
        go_wp2
        go_roundw
        case rel => exact ⟨k + 1, q, Q ++ [r], by omega, by go_num, rfl, hq, by rw [List.length_append, unhide HQ]; rfl, unhide hn, hO, hb2⟩
        case measure => simp [intOf]; omega
      · have hn := hide (read_bad (unhide HR) (by rw [unhide HQ]; omega) hno)
        have CC := hide C
        clear C hno
        go_wp2_with fail
        refine (unhide CC _).mono ?_
        rintro e w1 ⟨rfl, hb1⟩
        go_wp2
        go_ret2
        exact ⟨(hbel.trans (hb1.mono hbel.size)).alloc (by have := hb1.size; omega) _, .inr ⟨unhide hn, rfl⟩⟩
    · have hkc : k = count := by omega
      have hl : (Q.length : Int) = (count : Int) := by rw [unhide HQ, hkc]
      rw [← unhide HQ] at hown
      obtain ⟨ao, cap, hv, hheld, hlen, _, _⟩ := own_held hown
      subst hv
      have T := hide (fun w (h : Held w ao Q) => isTable_any Q ao cap w h (by unfold maxLen at hlen; omega))
      have HO := hide hown
      have HL := hide hl
      have HH := hide hheld
      clear hkc hl hown hheld
      by_cases hps : p = s.size
      · have hD : D s p = [] := List.length_eq_zero_iff.1 (by rw [D_len]; omega)
        have HD := hide hD
        subst hps
        clear hD
        cases ht : isTab Q
        · have hno : Hid (∀ R, ¬ TabS s R) := (fun R (h : TabS s R) => absurd ((read_end (unhide HR) (unhide HL) h).1 ▸ h.1 : isTab Q = true) (by rw [ht]; decide))
          rw [ht] at T
          clear ht
          go_wp2_with fail
          refine (unhide T _ (unhide HH)).mono ?_
          rintro e w1 ⟨rfl, hb1⟩
          go_wp2
          go_ret2
          exact ⟨hbel.trans (hb1.mono hbel.size), .inr ⟨unhide hno, rfl⟩⟩
        · have hyes := hide (read_tab (unhide HR) (unhide HL) (unhide HD) ht)
          rw [ht] at T
          clear ht
          go_wp2_with fail
          refine (unhide T _ (unhide HH)).mono ?_
          rintro e w1 ⟨rfl, hb1⟩
          go_wp2
          go_ret2
          exact ⟨hbel.trans (hb1.mono hbel.size), .inl ⟨Q, _, unhide hyes, rfl, own_below (unhide HO) hb1⟩⟩
      · have hne : ((p : Int) != (s.size : Int)) = true := by rw [bne_iff_ne]; omega
        have hno : Hid (∀ R, ¬ TabS s R) := (fun R (h : TabS s R) => hps (by
          have := congrArg List.length (read_end (unhide HR) (unhide HL) h).2
          rw [D_len] at this; simp at this; omega))
        clear hps
        go_wp2
        go_ret2
        exact ⟨hbel, .inr ⟨unhide hno, rfl⟩⟩

theorem decode_any (s : ByteArray) (w : World) (hs : s.size ≤ maxLen) : Calls Tryd.prog 57 #[.string s] w fun e w' => DecPost s w e w' := by
  rcases gives_or s 0 hs (Nat.zero_le _) with ⟨x, q, hf, he, hq, G⟩ | ⟨hn, F⟩
  · by_cases h200 : x ≤ 200
    · obtain ⟨c, rfl⟩ := Int.eq_ofNat_of_zero_le hf.1
      refine decode_loop s w hs c q (by omega) hq ⟨?_, by simp, hf⟩ G
      rw [← D_zero s, he]; rfl
    · have hno : Hid (∀ R, ¬ TabS s R) := (fun R (h : TabS s R) => h200 (by
        have e1 := tab_head h
        rw [← D_zero s, he, getL_enc hf] at e1
        have := (Prod.mk.inj (Option.some.inj e1)).1
        have := isTab_len h.1
        omega))
      clear he
      go_enter Tryd.func57, Tryd.ntmps57
      go_wp2_with fail
      refine (G _).mono ?_
      rintro e w' ⟨rfl, hw⟩
      subst hw
      go_wp2
      go_ret2
      exact ⟨Below.refl _ _, .inr ⟨unhide hno, rfl⟩⟩
  · have hno : Hid (∀ R, ¬ TabS s R) := (fun R (h : TabS s R) => by
      have e1 := tab_head h
      rw [← D_zero s, hn] at e1
      cases e1)
    clear hn
    go_enter Tryd.func57, Tryd.ntmps57
    go_wp2_with fail
    refine (F _).mono ?_
    rintro e w' ⟨rfl, hw⟩
    subst hw
    go_wp2
    go_ret2
    exact ⟨Below.refl _ _, .inr ⟨unhide hno, rfl⟩⟩
end Go.Proofs.YtoepcplbpochpaaDoor

/-
  A table that grows: (*lodge.rangeList).add.
-/
namespace Go.Proofs.YtoepcplbpochpaaDoor
open Go.RowKit

/-- A table with one range more. -/
def addR (R : List Rg) (g : Rg) : List Rg := if 0 < R.length ∧ goesB (rg R (R.length - 1)) g = true then R.set (R.length - 1) ⟨(rg R (R.length - 1)).v, (rg R (R.length - 1)).f, g.t, (rg R (R.length - 1)).k, (rg R (R.length - 1)).a⟩ else R ++ [g]

structure TlB (w : World) (B : Nat) (R : List Rg) (sv : Value) : Prop where
  row : Rowd w B 158 1 (fun _ => sv)
  own : w.ownsRow (B + 1) 132 5 sv R.length (cellsOf R)
theorem TlB.lt {w : World} {B : Nat} {R : List Rg} {sv : Value} (h : TlB w B R sv) : B < w.heap.size := h.row.lt
theorem TlB.cell {w : World} {B : Nat} {R : List Rg} {sv : Value} (h : TlB w B R sv) : w.cell? ⟨B, 0, none⟩ = some sv := h.row.cell (by omega)
theorem TlB.keep0 {w w' : World} {B : Nat} {R : List Rg} {sv : Value} (h : TlB w B R sv) (hk : Keep (fun _ => False) w w') : TlB w' B R sv := ⟨h.row.keep hk (fun h => h), own_keep h.own hk (fun _ _ h => h)⟩
theorem TlB.below {w w' : World} {B : Nat} {R : List Rg} {sv : Value} (h : TlB w B R sv) (hb : Below w.heap.size w w') : TlB w' B R sv := h.keep0 (Keep.of_below hb _)
theorem TlB.drew {w : World} {B : Nat} {R : List Rg} {sv : Value} (h : TlB w B R sv) : TlB w.drew B R sv := h.keep0 (Keep.refl _ _).drew
theorem TlB.apart {w : World} {B : Nat} {R : List Rg} {sv : Value} (h : TlB w B R sv) {k : Nat} (hk : w.heap.size ≤ k) : some k ≠ sv.ownBlock := fun e => by have := (own_in h.own k e.symm).2; omega
theorem TlB.under {B : Nat} {w w' : World} {R : List Rg} {sv sv' : Value} (h : WrStep B w sv w' sv') (hw : TlB w B R sv) : Below B w w' :=
  h.keep.below (Nat.le_of_lt hw.lt) (fun k hk e => e.elim (fun e => by omega) (fun e => by have := (own_in hw.own k e.symm).1; omega))
theorem TlB.slice {w : World} {B : Nat} {R : List Rg} {sv : Value} (h : TlB w B R sv) (hn : 1 ≤ R.length) : ∃ g cap, sv = .slice (some ⟨g, 0, none⟩) R.length cap ∧ B < g ∧ g < w.heap.size ∧ (∀ o, w.frozen? ⟨g, o, none⟩ = false) := by
  rcases h.own.2 with ⟨_, h0⟩ | ⟨g, cap, cur, h1, h2, h3, _⟩
  · omega
  · exact ⟨g, cap, h1, by omega, (Array.getElem?_eq_some_iff.1 h3).1, fun o => by simp [World.frozen?, h3]⟩
theorem TlB.shape {w : World} {B : Nat} {R : List Rg} {sv : Value} (h : TlB w B R sv) : ∃ ao cap, sv = .slice ao R.length cap := by
  rcases h.own.2 with ⟨h1, h0⟩ | ⟨g, cap, cur, h1, _⟩
  · exact ⟨none, 0, by rw [h0]; exact h1⟩
  · exact ⟨_, _, h1⟩
def At5 (w : World) (b o : Nat) (x : Rg) : Prop := w.cell? ⟨b, o, none⟩ = some (.int .i64 x.v) ∧ w.cell? ⟨b, o + 1, none⟩ = some (.int .i64 x.f) ∧ w.cell? ⟨b, o + 2, none⟩ = some (.int .i64 x.t) ∧ w.cell? ⟨b, o + 3, none⟩ = some (.int .i64 x.k) ∧ w.cell? ⟨b, o + 4, none⟩ = some (.int .i64 x.a)
theorem At5.below {w w' : World} {B b o : Nat} {x : Rg} (h : At5 w b o x) (hb : Below B w w') (hB : b < B) : At5 w' b o x :=
  ⟨(hb.cell hB).trans h.1, (hb.cell hB).trans h.2.1, (hb.cell hB).trans h.2.2.1, (hb.cell hB).trans h.2.2.2.1, (hb.cell hB).trans h.2.2.2.2⟩
theorem box5 (w : World) (x : Rg) : ∃ w2, w2 = w.alloc (.cells #[.int .i64 x.v, .int .i64 x.f, .int .i64 x.t, .int .i64 x.k, .int .i64 x.a] 132) ∧ At5 w2 w.heap.size 0 x ∧ Hid (Below w.heap.size w w2) ∧ w.heap.size < w2.heap.size := by
  have q : ∀ i, (w.alloc (.cells #[.int .i64 x.v, .int .i64 x.f, .int .i64 x.t, .int .i64 x.k, .int .i64 x.a] 132)).cell? ⟨w.heap.size, i, none⟩ = #[Value.int .i64 x.v, .int .i64 x.f, .int .i64 x.t, .int .i64 x.k, .int .i64 x.a][i]? := fun i => World.cell?_alloc_at (hn := rfl) ..
  exact ⟨_, rfl, ⟨(q 0).trans rfl, (q 1).trans rfl, (q 2).trans rfl, (q 3).trans rfl, (q 4).trans rfl⟩, (Below.refl _ _).alloc (Nat.le_refl _) _, by simp⟩
theorem own_rg {w : World} {base g n cap : Nat} {R : List Rg} (h : w.ownsRow base 132 5 (.slice (some ⟨g, 0, none⟩) n cap) n (cellsOf R)) (hn : n = R.length) {i : Nat} (hi : i < R.length) : At5 w g (i * 5) (rg R i) := by
  have key : ∀ j, j < 5 → w.cell? ⟨g, i * 5 + j, none⟩ = (rg R i).cells[j]? := fun j hj => by
    have hc := World.ownsRow.cellAt h (i * 5 + j) (by omega)
    rw [hc]; exact cellsOf_at R i hi j hj
  exact ⟨key 0 (by omega), key 1 (by omega), key 2 (by omega), key 3 (by omega), key 4 (by omega)⟩
theorem cellsOf_set : ∀ (R : List Rg) (i j : Nat) (v : Value) (x' : Rg), j < 5 → i < R.length → x'.cells = (rg R i).cells.set j v → (cellsOf R).set (i * 5 + j) v = cellsOf (R.set i x')
  | [], i, _, _, _, _, h, _ => by cases h
  | x :: C, 0, j, v, x', hj, _, he => by
    show (x.cells ++ cellsOf C).set (0 * 5 + j) v = x'.cells ++ cellsOf C
    rw [List.set_append_left _ _ (by show 0 * 5 + j < 5; omega), show 0 * 5 + j = j by omega, he]; rfl
  | x :: C, i + 1, j, v, x', hj, h, he => by
    show (x.cells ++ cellsOf C).set ((i + 1) * 5 + j) v = x.cells ++ cellsOf (C.set i x')
    rw [List.set_append_right _ _ (by show 5 ≤ (i + 1) * 5 + j; omega), show (i + 1) * 5 + j - x.cells.length = i * 5 + j by show (i + 1) * 5 + j - 5 = _; omega, cellsOf_set C i j v x' hj (by simpa using h) he]

def AddPost (w : World) (B : Nat) (R : List Rg) (sv : Value) (e : Ending) (w' : World) : Prop := e = .returned (.tuple #[]) ∧ ∃ sv', TlB w' B R sv' ∧ WrStep B w sv w' sv'
theorem AddPost.drew {w w' : World} {B : Nat} {R : List Rg} {sv : Value} {e : Ending} (h : AddPost w B R sv e w') : AddPost w B R sv e w'.drew := by
  obtain ⟨h1, sv', h2, h3⟩ := h
  exact ⟨h1, sv', h2.drew, h3.trans (.quiet (Keep.refl _ _).drew)⟩
theorem AddPost.drewN {w w' : World} {B : Nat} {R : List Rg} {sv : Value} {e : Ending} (h : AddPost w B R sv e w') (n : Nat) : AddPost w B R sv e (w'.drewN n) := by
  obtain ⟨h1, sv', h2, h3⟩ := h
  exact ⟨h1, sv', h2.keep0 ((Keep.refl _ _).drewN n), h3.trans (.quiet ((Keep.refl _ _).drewN n))⟩
theorem add_post {w w2 wz w3 : World} {B g cap H : Nat} {R : List Rg} {sv : Value} {x : Rg} (hw : TlB w2 B R sv) (hK2 : Keep (fun _ => False) w w2) (hz : Keep (fun _ => False) w2 wz) (hg : wz.grownBy w3 sv.ownBlock)
    (hat : sv.ownBlock = some g ∨ g = H) (hH : w2.heap.size ≤ H)
    (hown : w3.ownsRow (B + 1) 132 5 (.slice (some ⟨g, 0, none⟩) (R.length + 1) cap) (R.length + 1) (cellsOf R ++ [.int .i64 x.v, .int .i64 x.f, .int .i64 x.t, .int .i64 x.k, .int .i64 x.a])) :
    AddPost w B (R ++ [x]) sv (.returned (.tuple #[])) (w3.setCell ⟨B, 0, none⟩ (.slice (some ⟨g, 0, none⟩) (R.length + 1) cap)) := by
  have hB2 := hw.lt
  have hne : some B ≠ sv.ownBlock := fun e => by have := (own_in hw.own B e.symm).1; omega
  have hbl := grown_block hz hg hne hB2
  have hk3 : Keep (fun k => some k = sv.ownBlock) w2 w3 := (hz.mono (fun _ _ h => h.elim)).grown hg (fun k e _ => e.symm)
  have hkB : Keep (fun k => k = B) w3 (w3.setCell ⟨B, 0, none⟩ (.slice (some ⟨g, 0, none⟩) (R.length + 1) cap)) := keep_set (Keep.refl _ _) _ _
  refine ⟨rfl, .slice (some ⟨g, 0, none⟩) (R.length + 1) cap, ⟨?_, ?_⟩, ⟨?_, ?_⟩⟩
  · exact ((hw.row.of_block hbl).set 0 _).congr (fun o ho => by rw [if_pos (by omega)])
  · rw [List.length_append, cellsOf_snoc]
    exact own_keep hown hkB (fun k hk e => by have := (own_in hown k hk).1; omega)
  · exact ((hK2.mono (T := fun k => k = B ∨ some k = sv.ownBlock) (fun _ _ h => h.elim)).trans hk3 (fun _ _ h => .inr h)).trans hkB (fun _ _ h => .inl h)
  · intro k hk hn e
    have e' : some k = some g := e
    injection e' with e'
    subst e'
    have := hK2.size
    rcases hat with h | h
    · exact hn h.symm
    · omega

set_option maxRecDepth 100000 in
set_option maxHeartbeats 8000000 in
theorem addR_any (B : Nat) (R : List Rg) (sv : Value) (x : Rg) (w : World) (h : TlB w B R sv) (hl : R.length ≤ 1000) :
    Calls Tryd.prog 104 #[.pointer (some ⟨B, 0, none⟩), .agg #[.int .i64 x.v, .int .i64 x.f, .int .i64 x.t, .int .i64 x.k, .int .i64 x.a]] w (AddPost w B (addR R x) sv) := by
  have HI := hide h
  have hB := h.lt
  obtain ⟨w2, hw2, hq, HB2, hZ⟩ := box5 w x
  have HW := hide hw2
  have HK2 : Hid (Keep (fun _ => False) w w2) := Keep.of_below (unhide HB2) _
  have HI2 := hide ((unhide HI).below (unhide HB2))
  have cB : w2.cell? ⟨B, 0, none⟩ = some sv := (unhide HI2).cell
  have hf2 : ∀ o, w2.frozen? ⟨B, o, none⟩ = false := (unhide HI2).row.free
  have hB2 : B < w2.heap.size := (unhide HI2).lt
  have HO := hide (unhide HI2).own
  have HN : Hid (some B ≠ sv.ownBlock) := fun e => by have := (own_in (unhide HO) B e.symm).1; omega
  have HQ := hide hq
  obtain ⟨q0, q1, q2, q3, q4⟩ := hq
  clear hw2 h
  by_cases hn : R.length = 0
  · obtain rfl : R = [] := List.length_eq_zero_iff.1 hn
    have HR := hide (show addR [] x = [] ++ [x] from rfl)
    obtain ⟨ao, cap, hsv⟩ := (unhide HI2).shape
    rw [show ([] : List Rg).length = 0 from rfl] at hsv
    subst hsv
    clear hn hl
    go_enter Tryd.func104, Tryd.ntmps104
    go_upto_region 1 with fail
    rw [← unhide HW]
    go_wp2_with fail
    go_quiet (fail)
    obtain ⟨wA, hwA⟩ : ∃ wA, wA = w2.drewN nq := ⟨_, rfl⟩
    rw [← hwA]
    have hkA : Keep (fun _ => False) w2 wA := by rw [hwA]; exact (Keep.refl _ _).drewN _
    have HIA := hide ((unhide HI2).keep0 hkA)
    have HKA : Hid (Keep (fun _ => False) w wA) := (unhide HK2).trans hkA (fun _ _ h => h)
    have hsA : w2.heap.size ≤ wA.heap.size := hkA.size
    have hbl := hkA.block w.heap.size hZ (fun h => h)
    have HQA : Hid (At5 wA w.heap.size 0 x) := ⟨(World.cell?_of_block hbl).trans q0, (World.cell?_of_block hbl).trans q1, (World.cell?_of_block hbl).trans q2, (World.cell?_of_block hbl).trans q3, (World.cell?_of_block hbl).trans q4⟩
    clear hwA hkA hbl q0 q1 q2 q3 q4 cB hf2 HQ HI2 HO HN
    go_wp2_with fail
    have cA : wA.cell? ⟨B, 0, none⟩ = some (Value.slice ao 0 cap) := (unhide HIA).cell
    have hfA : ∀ o, wA.frozen? ⟨B, o, none⟩ = false := (unhide HIA).row.free
    have hBA : B < wA.heap.size := (unhide HIA).lt
    have hzA : w.heap.size < wA.heap.size := Nat.lt_of_lt_of_le hZ hsA
    have HOA := hide (unhide HIA).own
    have HNA : Hid (some B ≠ ((Value.slice ao 0 cap)).ownBlock) := fun e => by have := (own_in (unhide HOA) B e.symm).1; omega
    obtain ⟨y0, y1, y2, y3, y4⟩ := unhide HQA
    obtain ⟨i0, hi, hz0, hz1, hz2'⟩ := info_parts Tryd.info132
    go_region_law ((refine step_append_lies _ (by rfl) _ _ _ (by rfl) (B + 1) 132 i0 _ 5 40 Tryd.underlying93 hi hz0 hz1 hz2' rfl (by omega) ((Value.slice ao 0 cap)) 0 (cellsOf []) (by rfl) (own_keep (unhide HOA) (S := fun _ => False) (by repeat first | exact Keep.refl _ _ | refine Keep.drew ?_ | refine Keep.alloc ?_ _) (fun _ _ h => h)) ⟨wA.heap.size, 0, none⟩ 1 1 [.int .i64 x.v, .int .i64 x.f, .int .i64 x.t, .int .i64 x.k, .int .i64 x.a] (by rfl) (by rfl) (World.news_of_block (cs := #[.int .i64 x.v, .int .i64 x.f, .int .i64 x.t, .int .i64 x.k, .int .i64 x.a]) (t := 132) (fr := (0, 0)) (heap_alloc_new _ _)) (by simp [Value.oneCell']) (by omega) (by unfold maxLen; omega) (by omega) (by simp; omega) (wA.heap.size + 1) (by simp) ?_; intro g9 capg w3 hown3 hgrow hat3 hlt3; have HBL := hide (grown_block (a := wA) (by repeat first | exact Keep.refl _ _ | refine Keep.drew ?_ | refine Keep.alloc ?_ _) hgrow (unhide HNA) hBA); have b25 : w3.cell? ⟨B, 0, none⟩ = some ((Value.slice ao 0 cap)) := (World.cell?_of_block (unhide HBL)).trans cA; have bf : w3.frozen? ⟨B, 0, none⟩ = false := (World.frozen?_of_block (unhide HBL)).trans (hfA 0)))
    all_goals go_wp2_with fail
    all_goals go_returns
    all_goals
      rw [unhide HR]
      have hP := add_post (x := x) (H := wA.heap.size + 1) (unhide HIA) (unhide HKA) (by repeat first | exact Keep.refl _ _ | refine Keep.drew ?_ | refine Keep.alloc ?_ _) hgrow hat3 (by omega) hown3
      first | exact hP | exact hP.drew | exact hP.drew.drew
  obtain ⟨g, cap, rfl, hBg, hgw, hgf⟩ := (unhide HI2).slice (by omega)
  obtain ⟨li, hli⟩ : ∃ li : Nat, (R.length : Int) - 1 = (li : Int) := ⟨R.length - 1, by omega⟩
  have hlt : li < R.length := by omega
  have hlti : (li : Int) < R.length := by omega
  have hl0 : (0 : Int) ≤ (li : Int) := by omega
  have HLI := hide (show R.length - 1 = li by omega)
  have hat := own_rg (unhide HO) rfl hlt
  have HAT := hide hat
  obtain ⟨z0, z1, z2, z3, z4⟩ := hat
  have KG := hide (goesOn_any (rg R li) x)
  obtain ⟨bb, hbb⟩ : ∃ b, b = goesB (rg R li) x := ⟨_, rfl⟩
  rw [← hbb] at KG
  have HBB := hide hbb
  clear hbb
  obtain ⟨y, hy⟩ : ∃ y, y = rg R li := ⟨_, rfl⟩
  rw [← hy] at z0 z1 z2 z3 z4 KG HAT
  have HY := hide hy
  have hNg : w.heap.size ≠ g := fun e => by have := (unhide HI2).apart (show w2.heap.size ≤ w2.heap.size from Nat.le_refl _); have h1 := (unhide HI).apart (Nat.le_refl w.heap.size); exact h1 (by rw [e]; rfl)
  have hlen := hl
  clear hy
  go_enter Tryd.func104, Tryd.ntmps104
  go_upto_region 1 with fail
  rw [← unhide HW]
  go_upto_region 2 with fail

  clear hli
  go_region_held3 (fun w' => w'.cell? ⟨B, 0, none⟩ = some (.slice (some ⟨g, 0, none⟩) R.length cap) ∧ w'.cell? ⟨g, li * 5, none⟩ = some (.int .i64 y.v) ∧ w'.cell? ⟨g, li * 5 + 1, none⟩ = some (.int .i64 y.f) ∧ w'.cell? ⟨g, li * 5 + 2, none⟩ = some (.int .i64 y.t) ∧ w'.cell? ⟨g, li * 5 + 3, none⟩ = some (.int .i64 y.k) ∧ w'.cell? ⟨g, li * 5 + 4, none⟩ = some (.int .i64 y.a) ∧ w'.cell? ⟨w.heap.size, 0, none⟩ = some (.int .i64 x.v) ∧ w'.cell? ⟨w.heap.size, 1, none⟩ = some (.int .i64 x.f) ∧ w'.cell? ⟨w.heap.size, 2, none⟩ = some (.int .i64 x.t) ∧ w'.cell? ⟨w.heap.size, 3, none⟩ = some (.int .i64 x.k) ∧ w'.cell? ⟨w.heap.size, 4, none⟩ = some (.int .i64 x.a)) (first | (simp [*]; done) | assumption)
    ((go_at_call 132; refine (unhide KG _).mono ?_; rintro e wA ⟨rfl, hb5⟩; have HBA : Hid (Below w2.heap.size w2 wA) := ⟨hb5.os, hb5.tape, hb5.output, hb5.size, hb5.block⟩; clear hb5; have cB5 : wA.cell? ⟨B, 0, none⟩ = some (.slice (some ⟨g, 0, none⟩) R.length cap) := ((unhide HBA).cell (p := ⟨B, 0, none⟩) hB2).trans cB; have zz := (unhide HAT).below (unhide HBA) hgw; have qq := (unhide HQ).below (unhide HBA) hZ; clear q0 q1 q2 q3 q4 z0 z1 z2 z3 z4 cB; obtain ⟨q0, q1, q2, q3, q4⟩ := qq; obtain ⟨z0, z1, z2, z3, z4⟩ := zz))
  have HIA := hide ((unhide HI2).below (unhide HBA))
  have HKA : Hid (Keep (fun _ => False) w wA) := (unhide HK2).trans (Keep.of_below (unhide HBA) (fun _ => False)) (fun _ _ h => h)
  have hsA : w2.heap.size ≤ wA.heap.size := (unhide HBA).size
  have HQA : Hid (At5 wA w.heap.size 0 x) := ⟨q0, q1, q2, q3, q4⟩
  cases bb
  · have HR := hide (show addR R x = R ++ [x] by unfold addR; rw [if_neg (fun h => by have := h.2; rw [unhide HLI, ← unhide HBB] at this; cases this)])
    clear q0 q1 q2 q3 q4 z0 z1 z2 z3 z4 cB5 hf2 HQ HI2 HO HN HAT hgf
    go_wp2_with fail
    have cA : wA.cell? ⟨B, 0, none⟩ = some (Value.slice (some ⟨g, 0, none⟩) R.length cap) := (unhide HIA).cell
    have hfA : ∀ o, wA.frozen? ⟨B, o, none⟩ = false := (unhide HIA).row.free
    have hBA : B < wA.heap.size := (unhide HIA).lt
    have hzA : w.heap.size < wA.heap.size := Nat.lt_of_lt_of_le hZ hsA
    have HOA := hide (unhide HIA).own
    have HNA : Hid (some B ≠ ((Value.slice (some ⟨g, 0, none⟩) R.length cap)).ownBlock) := fun e => by have := (own_in (unhide HOA) B e.symm).1; omega
    obtain ⟨y0, y1, y2, y3, y4⟩ := unhide HQA
    obtain ⟨i0, hi, hz0, hz1, hz2'⟩ := info_parts Tryd.info132
    go_region_law ((refine step_append_lies _ (by rfl) _ _ _ (by rfl) (B + 1) 132 i0 _ 5 40 Tryd.underlying93 hi hz0 hz1 hz2' rfl (by omega) ((Value.slice (some ⟨g, 0, none⟩) R.length cap)) R.length (cellsOf R) (by rfl) (own_keep (unhide HOA) (S := fun _ => False) (by repeat first | exact Keep.refl _ _ | refine Keep.drew ?_ | refine Keep.alloc ?_ _) (fun _ _ h => h)) ⟨wA.heap.size, 0, none⟩ 1 1 [.int .i64 x.v, .int .i64 x.f, .int .i64 x.t, .int .i64 x.k, .int .i64 x.a] (by rfl) (by rfl) (World.news_of_block (cs := #[.int .i64 x.v, .int .i64 x.f, .int .i64 x.t, .int .i64 x.k, .int .i64 x.a]) (t := 132) (fr := (0, 0)) (heap_alloc_new _ _)) (by simp [Value.oneCell']) (by omega) (by unfold maxLen; omega) (by omega) (by simp; omega) (wA.heap.size + 1) (by simp) ?_; intro g9 capg w3 hown3 hgrow hat3 hlt3; have HBL := hide (grown_block (a := wA) (by repeat first | exact Keep.refl _ _ | refine Keep.drew ?_ | refine Keep.alloc ?_ _) hgrow (unhide HNA) hBA); have b25 : w3.cell? ⟨B, 0, none⟩ = some ((Value.slice (some ⟨g, 0, none⟩) R.length cap)) := (World.cell?_of_block (unhide HBL)).trans cA; have bf : w3.frozen? ⟨B, 0, none⟩ = false := (World.frozen?_of_block (unhide HBL)).trans (hfA 0)))
    all_goals go_wp2_with fail
    all_goals go_returns
    all_goals
      rw [unhide HR]
      have hP := add_post (x := x) (H := wA.heap.size + 1) (unhide HIA) (unhide HKA) (by repeat first | exact Keep.refl _ _ | refine Keep.drew ?_ | refine Keep.alloc ?_ _) hgrow hat3 (by omega) hown3
      first | exact hP | exact hP.drew | exact hP.drew.drew
  · have HR := hide (show addR R x = R.set li ⟨y.v, y.f, x.t, y.k, y.a⟩ by unfold addR; rw [if_pos ⟨by omega, by rw [unhide HLI]; exact (unhide HBB).symm⟩, unhide HLI, ← unhide HY])
    have hgA : g < wA.heap.size := Nat.lt_of_lt_of_le hgw hsA
    have HOA := hide (unhide HIA).own
    have hgfA : ∀ o, wA.frozen? ⟨g, o, none⟩ = false := fun o => (World.frozen?_of_block ((unhide HBA).block g hgw)).trans (hgf o)
    have hkB : ∀ (wq : World) (j o : Nat) (z : Value), (wq.setCell ⟨g, j, none⟩ z).cell? ⟨B, o, none⟩ = wq.cell? ⟨B, o, none⟩ := fun wq j o z => World.cell?_setCell_other _ _ _ _ (fun e => by injection e with e1; omega)
    have hkN : ∀ (wq : World) (j o : Nat) (z : Value), (wq.setCell ⟨g, j, none⟩ z).cell? ⟨w.heap.size, o, none⟩ = wq.cell? ⟨w.heap.size, o, none⟩ := fun wq j o z => World.cell?_setCell_other _ _ _ _ (fun e => by injection e with e1; omega)
    have HP : Hid (AddPost w B (addR R x) (.slice (some ⟨g, 0, none⟩) R.length cap) (.returned (.tuple #[])) ((wA.setCell ⟨g, li * 5 + 2, none⟩ (.int .i64 x.t)).drew)) := by
      refine ⟨rfl, .slice (some ⟨g, 0, none⟩) R.length cap, ⟨?_, ?_⟩, ⟨?_, fun _ _ h => h⟩⟩
      · exact ((unhide HIA).row.of_block (heap_setCell_other wA ⟨g, li * 5 + 2, none⟩ B (.int .i64 x.t) (show B ≠ g by omega))).drew
      · have ho := own_set (unhide HOA) (li * 5 + 2) (.int .i64 x.t)
        rw [cellsOf_set R li 2 _ ⟨y.v, y.f, x.t, y.k, y.a⟩ (by omega) hlt (by rw [← unhide HY]; rfl), ← unhide HR] at ho
        have e : (addR R x).length = R.length := by rw [unhide HR, List.length_set]
        rw [e]
        exact own_keep ho (Keep.refl (fun _ => False) _).drew (fun _ _ h => h)
      · exact (((unhide HKA).mono (T := fun k => k = B ∨ some k = (Value.slice (some ⟨g, 0, none⟩) R.length cap).ownBlock) (fun _ _ h => h.elim)).setCell (p := ⟨g, li * 5 + 2, none⟩) (.inr rfl) _).drew
    clear hf2 HQ HI2 HO HN HAT hgf HOA
    go_wp2_with fail
    go_region_held3 (fun w' => w'.cell? ⟨B, 0, none⟩ = some (.slice (some ⟨g, 0, none⟩) R.length cap) ∧ w'.cell? ⟨w.heap.size, 2, none⟩ = some (.int .i64 x.t)) (first | (simp [*]; done) | assumption) (fail)
    go_wp2_with fail
    go_returns
    exact unhide HP
end Go.Proofs.YtoepcplbpochpaaDoor
