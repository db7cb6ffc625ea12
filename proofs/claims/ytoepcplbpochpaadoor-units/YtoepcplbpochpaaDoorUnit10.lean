/-
  What leb.Decode answers, of every string: the table that it holds, fresh; or that it holds none.
-/
import Derived.Test.YtoepcplbpochpaaDoorUnit9

namespace Go.Proofs.YtoepcplbpochpaaDoor
open Go.RowKit

theorem Tryd.info132 : (Tryd.prog.info? 132).map (fun i => (i.zero, i.size, i.bytes)) = some (some (.agg #[.int .i64 0, .int .i64 0, .int .i64 0, .int .i64 0, .int .i64 0]), 5, 40) := by kernel_rfl

/-- The cells of a list of ranges. -/
def cellsOf (R : List Rg) : List Value := R.flatMap Rg.cells
theorem cellsOf_len (R : List Rg) : (cellsOf R).length = R.length * 5 := by
  unfold cellsOf
  induction R with
  | nil => rfl
  | cons r R ih => rw [List.flatMap_cons, List.length_append, ih, List.length_cons]; show 5 + _ = _; omega
theorem cellsOf_snoc (R : List Rg) (r : Rg) : cellsOf (R ++ [r]) = cellsOf R ++ r.cells := by unfold cellsOf; rw [List.flatMap_append]; simp

theorem cellsOf_at : ∀ (R : List Rg) (i : Nat), i < R.length → ∀ j, j < 5 → (cellsOf R)[i * 5 + j]? = (rg R i).cells[j]?
  | [], i, h, _, _ => absurd h (by simp)
  | r :: R, 0, _, j, hj => by
    unfold cellsOf; rw [List.flatMap_cons, Nat.zero_mul, Nat.zero_add, List.getElem?_append_left (by exact hj)]; rfl
  | r :: R, i + 1, h, j, hj => by
    have ih := cellsOf_at R i (by simpa using h) j hj
    unfold cellsOf at *
    rw [List.flatMap_cons, List.getElem?_append_right (by show 5 ≤ _; omega), show (i + 1) * 5 + j - r.cells.length = i * 5 + j by show _ - 5 = _; omega, ih]
    rfl

/-- What is owned stays owned behind a call that leaves old blocks alone. -/
theorem own_below {w w' : World} {base : Nat} {e : TypeId} {size n : Nat} {v : Value} {xs : List Value} (h : w.ownsRow base e size v n xs) (hb : Below w.heap.size w w') : w'.ownsRow base e size v n xs := by
  refine ⟨h.1, ?_⟩
  rcases h.2 with h2 | ⟨g, cap, cur, h1, h2, h3, h4⟩
  · exact .inl h2
  · exact .inr ⟨g, cap, cur, h1, h2, by rw [hb.block g (Array.getElem?_eq_some_iff.1 h3).1]; exact h3, h4⟩

/-- What is owned from a higher block on is owned from a lower one on. -/
theorem own_weakR {w : World} {base base' : Nat} {e : TypeId} {size n : Nat} {v : Value} {xs : List Value} (h : w.ownsRow base' e size v n xs) (hb : base ≤ base') : w.ownsRow base e size v n xs := by
  refine ⟨h.1, ?_⟩
  rcases h.2 with h2 | ⟨g, cap, cur, h1, h2, h3⟩
  · exact .inl h2
  · exact .inr ⟨g, cap, cur, h1, Nat.le_trans hb h2, h3⟩

/-- What is owned is held: the slice's own address, as the walks ask it. -/
theorem own_held {w : World} {base : Nat} {v : Value} {R : List Rg} (h : w.ownsRow base 132 5 v R.length (cellsOf R)) :
    ∃ ao cap, v = .slice ao R.length cap ∧ Held w ao R ∧ R.length ≤ maxLen ∧ (ao = none → cap = 0) ∧ (∀ g o sp, ao = some ⟨g, o, sp⟩ → base ≤ g ∧ g < w.heap.size) := by
  rcases h.2 with ⟨rfl, h0⟩ | ⟨g, cap, cur, rfl, h2, h3, h4, h5, h6, h7⟩
  · have : R = [] := List.length_eq_zero_iff.1 h0
    subst this
    exact ⟨none, 0, rfl, .inl rfl, by decide, fun _ => rfl, fun g o sp h => by cases h⟩
  · refine ⟨some ⟨g, 0, none⟩, cap, rfl, .inr ⟨g, 0, rfl, (Array.getElem?_eq_some_iff.1 h3).1, ?_⟩, by omega, fun h => (by cases h), fun g' o sp h => (by cases h; exact ⟨h2, (Array.getElem?_eq_some_iff.1 h3).1⟩)⟩
    intro i hi
    have key : ∀ j, j < 5 → w.cell? ⟨g, i * 5 + j, none⟩ = (rg R i).cells[j]? := fun j hj => by
      rw [h.cellAt (i * 5 + j) (by omega), cellsOf_at R i hi j hj]
    rw [Nat.zero_add]
    exact ⟨key 0 (by decide), key 1 (by decide), key 2 (by decide), key 3 (by decide), key 4 (by decide)⟩

/-- What Decode answers. -/
def DecPost (s : ByteArray) (w : World) (e : Ending) (w' : World) : Prop :=
  Below w.heap.size w w' ∧ ((∃ R v, TabS s R ∧ e = .returned (.tuple #[v, .int .i64 0]) ∧ w'.ownsRow w.heap.size 132 5 v R.length (cellsOf R)) ∨
    ((∀ R, ¬ TabS s R) ∧ e = .returned (.tuple #[.slice none 0 0, .int .i64 14])))

set_option maxRecDepth 100000 in
set_option maxHeartbeats 1000000 in
theorem decode_loop (s : ByteArray) (w : World) (hs : s.size ≤ maxLen) (count : Nat) (p0 : Nat) (hc : count ≤ 200) (hp0 : p0 ≤ s.size) (h0 : ReadTo s count [] p0) (G : Gives s 0 count p0) :
    Calls Tryd.prog 57 #[.string s] w fun e w' => DecPost s w e w' := by
  obtain ⟨i0, hi, hz0, hz1, hz2⟩ := info_parts Tryd.info132
  unfold maxLen at hs
  go_enter Tryd.func57, Tryd.ntmps57
  go_wp2_with fail
  refine (G _).mono ?_
  rintro e w' ⟨rfl, hw⟩
  subst hw
  go_wp2_with fail
  go_loopw [5, 7, 8] (fun a v i wr => ∃ (k p : Nat) (Q : List Rg), k ≤ count ∧ i = .int .i64 k ∧ a = .int .i64 p ∧ p ≤ s.size ∧ Q.length = k ∧ ReadTo s count Q p ∧ wr.ownsRow w'.heap.size 132 5 v k (cellsOf Q) ∧ Below w'.heap.size w' wr) (fun _ _ i _ => count - (intOf i).toNat)
  case atStart => exact ⟨0, p0, [], Nat.zero_le _, rfl, rfl, hp0, rfl, h0, World.ownsRow_nil _ _ _ _, Below.refl _ _⟩
  case round =>
    obtain ⟨k, p, Q, hk, rfl, rfl, hp, hQ, hread, hown, hbel⟩ := hrel
    have HQ := hide hQ
    have HR := hide hread
    have hB := hbel.size
    clear hQ hread
    by_cases hlt : k < count
    · rcases range_or s p hs hp with ⟨r, q, hr, he, hq, C⟩ | ⟨hno, C⟩
      · have hn := hide (read_next (unhide HR) hr he)
        have CC := hide C
        clear C hr he
        go_wp2_with fail
        refine (unhide CC _).mono ?_
        rintro e w1 ⟨rfl, hb1⟩
        have hB1 := hb1.size
        have hown1 := own_below hown hb1
        clear hown
        go_wp2_with (at_builtin; refine wpList_append_own _ rfl _ _ 93 rfl w'.heap.size 132 i0 (.agg #[.int .i64 0, .int .i64 0, .int .i64 0, .int .i64 0, .int .i64 0]) 5 40 Tryd.underlying93 hi hz0 hz1 hz2 rfl (by decide) _ _ _ rfl ((hown1.alloc _).alloc _) ⟨w1.heap.size + 1, 0, none⟩ 1 1 [.int .i64 r.v, .int .i64 r.f, .int .i64 r.t, .int .i64 r.k, .int .i64 r.a] rfl rfl ?c1 ?c2 ?c3 ?c4 ?c5 ?_)
        case c1 => exact cells_new _ _ (by simp) 132 _
        case c2 => intro u hu; simp only [List.mem_cons, List.not_mem_nil, or_false] at hu; rcases hu with rfl | rfl | rfl | rfl | rfl <;> rfl
        case c3 => unfold maxLen; omega
        case c4 => omega
        case c5 => simp; omega
        intro v' w2 hown' hgrow _
        have hb2 : Below w'.heap.size w' w2 := (((hbel.trans (hb1.mono hbel.size)).alloc (by omega) _).alloc (by simp; omega) _).grown hgrow (by simp; omega) (own_ge hown1)
        have hO : w2.ownsRow w'.heap.size 132 5 v' (k + 1) (cellsOf (Q ++ [r])) := by rw [cellsOf_snoc]; exact hown'
        clear hgrow hown' hown1
        go_wp2
        go_roundw
        case rel => exact ⟨k + 1, q, Q ++ [r], by omega, by go_num, rfl, hq, by rw [List.length_append, unhide HQ]; rfl, unhide hn, hO, hb2⟩
        case measure => simp [intOf]; omega
      · have hn := hide (read_bad (unhide HR) (by rw [unhide HQ]; omega) hno)
        have CC := hide C
        clear C hno
        go_wp2_with fail
        refine (unhide CC _).mono ?_
        rintro e w1 ⟨rfl, hb1⟩
        go_wp2
        go_ret2
        exact ⟨(hbel.trans (hb1.mono hbel.size)).alloc (by have := hb1.size; omega) _, .inr ⟨unhide hn, rfl⟩⟩
    · have hkc : k = count := by omega
      have hl : (Q.length : Int) = (count : Int) := by rw [unhide HQ, hkc]
      rw [← unhide HQ] at hown
      obtain ⟨ao, cap, hv, hheld, hlen, _, _⟩ := own_held hown
      subst hv
      have T := hide (fun w (h : Held w ao Q) => isTable_any Q ao cap w h (by unfold maxLen at hlen; omega))
      have HO := hide hown
      have HL := hide hl
      have HH := hide hheld
      clear hkc hl hown hheld
      by_cases hps : p = s.size
      · have hD : D s p = [] := List.length_eq_zero_iff.1 (by rw [D_len]; omega)
        have HD := hide hD
        subst hps
        clear hD
        cases ht : isTab Q
        · have hno : Hid (∀ R, ¬ TabS s R) := (fun R (h : TabS s R) => absurd ((read_end (unhide HR) (unhide HL) h).1 ▸ h.1 : isTab Q = true) (by rw [ht]; decide))
          rw [ht] at T
          clear ht
          go_wp2_with fail
          refine (unhide T _ (unhide HH)).mono ?_
          rintro e w1 ⟨rfl, hb1⟩
          go_wp2
          go_ret2
          exact ⟨hbel.trans (hb1.mono hbel.size), .inr ⟨unhide hno, rfl⟩⟩
        · have hyes := hide (read_tab (unhide HR) (unhide HL) (unhide HD) ht)
          rw [ht] at T
          clear ht
          go_wp2_with fail
          refine (unhide T _ (unhide HH)).mono ?_
          rintro e w1 ⟨rfl, hb1⟩
          go_wp2
          go_ret2
          exact ⟨hbel.trans (hb1.mono hbel.size), .inl ⟨Q, _, unhide hyes, rfl, own_below (unhide HO) hb1⟩⟩
      · have hne : ((p : Int) != (s.size : Int)) = true := by rw [bne_iff_ne]; omega
        have hno : Hid (∀ R, ¬ TabS s R) := (fun R (h : TabS s R) => hps (by
          have := congrArg List.length (read_end (unhide HR) (unhide HL) h).2
          rw [D_len] at this; simp at this; omega))
        clear hps
        go_wp2
        go_ret2
        exact ⟨hbel, .inr ⟨unhide hno, rfl⟩⟩

theorem decode_any (s : ByteArray) (w : World) (hs : s.size ≤ maxLen) : Calls Tryd.prog 57 #[.string s] w fun e w' => DecPost s w e w' := by
  rcases gives_or s 0 hs (Nat.zero_le _) with ⟨x, q, hf, he, hq, G⟩ | ⟨hn, F⟩
  · by_cases h200 : x ≤ 200
    · obtain ⟨c, rfl⟩ := Int.eq_ofNat_of_zero_le hf.1
      refine decode_loop s w hs c q (by omega) hq ⟨?_, by simp, hf⟩ G
      rw [← D_zero s, he]; rfl
    · have hno : Hid (∀ R, ¬ TabS s R) := (fun R (h : TabS s R) => h200 (by
        have e1 := tab_head h
        rw [← D_zero s, he, getL_enc hf] at e1
        have := (Prod.mk.inj (Option.some.inj e1)).1
        have := isTab_len h.1
        omega))
      clear he
      go_enter Tryd.func57, Tryd.ntmps57
      go_wp2_with fail
      refine (G _).mono ?_
      rintro e w' ⟨rfl, hw⟩
      subst hw
      go_wp2
      go_ret2
      exact ⟨Below.refl _ _, .inr ⟨unhide hno, rfl⟩⟩
  · have hno : Hid (∀ R, ¬ TabS s R) := (fun R (h : TabS s R) => by
      have e1 := tab_head h
      rw [← D_zero s, hn] at e1
      cases e1)
    clear hn
    go_enter Tryd.func57, Tryd.ntmps57
    go_wp2_with fail
    refine (F _).mono ?_
    rintro e w' ⟨rfl, hw⟩
    subst hw
    go_wp2
    go_ret2
    exact ⟨Below.refl _ _, .inr ⟨unhide hno, rfl⟩⟩
end Go.Proofs.YtoepcplbpochpaaDoor
