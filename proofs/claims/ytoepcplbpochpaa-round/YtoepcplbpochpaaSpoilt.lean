/-
  What lodgekeep.spoilt answers of a table: true.
-/
import Derived.Test.YtoepcplbpochpaaDecode
import Derived.Test.YtoepcplbpochpaaTablesWalk
import Derived.Deep.RegionHeld3
import Derived.Deep.AppendLies
import Derived.Deep.DeepCutAuto
namespace Go.Proofs.Ytoepcplbpochpaa
open Go.RowKit

theorem follows_self {x : Rg} (h : isRg x = true) : follows x x = false := by
  unfold isRg at h; rw [decide_eq_true_eq] at h
  unfold follows
  have : x.t ≠ x.f := by omega
  simp [this]; omega
theorem follows_back {x y : Rg} (hx : isRg x = true) (hy : isRg y = true) (h : follows x y = true) : follows y x = false := by
  unfold isRg at hx hy; rw [decide_eq_true_eq] at hx hy
  unfold follows at *
  by_cases e : x.v = y.v
  · by_cases e1 : x.t = y.f
    · have : y.t ≠ x.f := by omega
      simp [e, this]; omega
    · simp [e, e1] at h
      have : y.t ≠ x.f := by omega
      simp [e, this]; omega
  · simp [e] at h
    have : y.v ≠ x.v := fun h => e h.symm
    simp [this]; omega
/-- Two ranges at the head that may not follow one another: no table. -/
theorem no_tab {x y : Rg} {R : List Rg} (h : follows x y = false) : isTab (x :: y :: R) = false := by
  cases ht : isTab (x :: y :: R) with
  | false => rfl
  | true =>
    unfold isTab tabTo at ht
    rw [Bool.and_eq_true, List.all_eq_true] at ht
    have := ht.2 1 (by rw [List.mem_range]; simp)
    have e : follows (rg (x :: y :: R) (1 - 1)) (rg (x :: y :: R) 1) = false := h
    rw [e] at this
    simp at this

theorem cells_ints (r : Rg) : ∀ u ∈ r.cells, u.oneCell' = true := by
  intro u hu; unfold Rg.cells at hu; simp only [List.mem_cons, List.not_mem_nil, or_false] at hu; rcases hu with rfl | rfl | rfl | rfl | rfl <;> rfl

theorem At5.cells {w : World} {b o : Nat} {r : Rg} (h : At5 w b o r) : w.cell? ⟨b, o, none⟩ = some (.int .i64 r.v) ∧ w.cell? ⟨b, o + 1, none⟩ = some (.int .i64 r.f) ∧ w.cell? ⟨b, o + 2, none⟩ = some (.int .i64 r.t) ∧ w.cell? ⟨b, o + 3, none⟩ = some (.int .i64 r.k) ∧ w.cell? ⟨b, o + 4, none⟩ = some (.int .i64 r.a) := h

set_option maxRecDepth 100000 in
theorem spoilt_small (Q : List Rg) (ao : Option Addr) (cap : Nat) (w : World) (hq : Q.length = 0 ∨ 200 ≤ Q.length) (hl : Q.length ≤ 200) :
    Calls Try.prog 18 #[.slice ao Q.length cap] w fun e w' => e = .returned (.bool true) ∧ Below w.heap.size w w' := by
  rcases hq with h | h
  · rw [h]
    go_enter Try.func18, Try.ntmps18
    go_wp2
    go_ret
    exact ⟨rfl, Below.refl _ _⟩
  · have h0 : ((Q.length : Int) == 0) = false := by rw [beq_eq_false_iff_ne]; omega
    go_enter Try.func18, Try.ntmps18
    go_wp2
    go_ret
    exact ⟨rfl, Below.refl _ _⟩

theorem cellsOf_cons (x : Rg) (T : List Rg) : cellsOf (x :: T) = x.cells ++ cellsOf T := by unfold cellsOf; rw [List.flatMap_cons]

theorem shift_src {w : World} {b off : Nat} {x : Rg} {T : List Rg} (h : ∀ j u, (cellsOf (x :: T))[j]? = some u → w.cell? ⟨b, off + j, none⟩ = some u) : ∀ j u, (cellsOf T)[j]? = some u → w.cell? ⟨b, off + 5 + j, none⟩ = some u := by
  intro j u hj
  have := h (5 + j) u (by rw [cellsOf_cons, List.getElem?_append_right (by show 5 ≤ _; omega)]; show (cellsOf T)[5 + j - 5]? = _; rw [show 5 + j - 5 = j by omega]; exact hj)
  rw [← Nat.add_assoc] at this; exact this
theorem add_plain (b off j : Nat) : (⟨b, off, none⟩ : Addr).add j = ⟨b, off + j, none⟩ := by unfold Addr.add; split <;> simp_all
theorem lie_src {w : World} {b off : Nat} {R : List Rg} (h : Lie w b off R) : ∀ j u, (cellsOf R)[j]? = some u → w.cell? ⟨b, off + j, none⟩ = some u := by
  intro j u hj
  by_cases h0 : R = []
  · subst h0; simp [cellsOf] at hj
  · by_cases hb : b < w.heap.size
    · obtain ⟨ad, e, hs⟩ := held_cells (.inr ⟨b, off, rfl, hb, h⟩) (List.length_pos_iff.2 h0)
      cases e
      have := hs j u hj
      rw [add_plain] at this; exact this
    · have := World.block_lt_of_cell? w _ (h 0 (List.length_pos_iff.2 h0)).1
      exact absurd this hb

set_option maxRecDepth 100000 in
set_option maxHeartbeats 4000000 in
theorem spoilt_any (x : Rg) (T : List Rg) (b off cap : Nat) (w : World) (hL : Lie w b off (x :: T)) (hb : b < w.heap.size) (hT : isTab (x :: T) = true) (hn : T.length + 1 < 200) (hcap : T.length + 1 ≤ cap) :
    Calls Try.prog 18 #[.slice (some ⟨b, off, none⟩) (T.length + 1) cap] w fun e w' => e = .returned (.bool true) ∧ Below w.heap.size w w' := by
  obtain ⟨i0, hi, hz0, hz1, hz2⟩ := info_parts Try.info30
  have hx : isRg x = true := isTab_rg (k := 0) hT (by simp)
  have HX := hide hx
  have HT := hide hT
  have E1 := hide (fun w ao cap (h : Held w ao (x :: x :: T)) => encode_any (x :: x :: T) ao cap w h (by simp only [List.length_cons]; omega))
  rw [encV_no (no_tab (follows_self hx))] at E1
  unfold isRg at hx; rw [decide_eq_true_eq] at hx
  obtain ⟨g1, g2, g3, g4, g5, g6, g7, g8, g9⟩ := hx
  have hL0 : At5 w b off x := by have := hL 0 (by simp); rw [Nat.zero_mul, Nat.add_zero] at this; exact this
  obtain ⟨c0, c1, c2, c3, c4⟩ := hL0.cells
  have HL := hide hL
  have hcp : (1 : Int) ≤ (cap : Int) := by omega
  have h0 : (((T.length : Int) + 1) == 0) = false := by rw [beq_eq_false_iff_ne]; omega
  clear hL hL0 hT
  go_enter Try.func18, Try.ntmps18
  go_wp2_with (at_builtin; refine wpList_append_own _ rfl (.tmp 22) (.tmp 26) 28 rfl w.heap.size 30 i0 (.agg #[.int .i64 0, .int .i64 0, .int .i64 0, .int .i64 0, .int .i64 0]) 5 40 Try.underlying28 hi hz0 hz1 hz2 rfl (by decide) _ 0 [] rfl (World.ownsRow_nil _ _ _ _) ⟨w.heap.size, 0, none⟩ 1 1 [.int .i64 x.v, .int .i64 x.f, .int .i64 x.t, .int .i64 x.k, .int .i64 x.a] rfl rfl ?c1 ?c2 ?c3 ?c4 ?c5 ?_)
  case c1 => exact cells_new _ _ (by simp) 30 _
  case c2 => exact cells_ints x
  case c3 => decide
  case c4 => decide
  case c5 => simp
  intro v1 w1 ho1 hgr1 _
  have hb1 : Below w.heap.size w w1 := ((Below.refl _ _).alloc (Nat.le_refl _) _).grown hgr1 (by simp) (fun k h => by cases h)
  have hs1 : ∀ j u, (cellsOf (x :: T))[j]? = some u → w1.cell? ((⟨b, off, none⟩ : Addr).add j) = some u := fun j u hj => by rw [add_plain]; exact lie_src ((unhide HL).below hb1 hb) j u hj
  have HS1 := hide hs1
  have hB1 := hb1.size
  have hcl : (cellsOf (x :: T)).length = (T.length + 1) * 5 := cellsOf_len _
  have HCL := hide hcl
  clear hgr1 hs1 hcl
  go_wp2_with (at_builtin; refine wpList_append_own _ rfl (.tmp 28) (.tmp 29) 28 rfl w.heap.size 30 i0 (.agg #[.int .i64 0, .int .i64 0, .int .i64 0, .int .i64 0, .int .i64 0]) 5 40 Try.underlying28 hi hz0 hz1 hz2 rfl (by decide) v1 1 [.int .i64 x.v, .int .i64 x.f, .int .i64 x.t, .int .i64 x.k, .int .i64 x.a] rfl ho1 ⟨b, off, none⟩ (T.length + 1) cap (cellsOf (x :: T)) rfl (unhide HCL) (unhide HS1) ?d2 ?d3 ?d4 ?d5 ?_)
  case d2 => exact cells_one _
  case d3 => unfold maxLen; omega
  case d4 => omega
  case d5 => exact hB1
  intro v2 w2 ho2 hgr2 _
  have hb2 : Below w.heap.size w w2 := hb1.grown hgr2 hB1 (own_ge ho1)
  have ho3 : w2.ownsRow w.heap.size 30 5 v2 (x :: x :: T).length (cellsOf (x :: x :: T)) := by
    rw [cellsOf_cons x (x :: T), List.length_cons, List.length_cons, Nat.add_comm (T.length + 1) 1]; exact ho2
  obtain ⟨a2, q2, rfl, hh2, _, _, _⟩ := own_held ho3
  have HH2 := hide hh2
  clear ho1 ho2 ho3 hh2 hgr2 HS1 HCL
  go_wp2_with fail
  refine (unhide E1 _ _ _ (unhide HH2)).mono ?_
  rintro e w3 ⟨rfl, hb3⟩
  have hb03 := hb2.trans (hb3.mono hb2.size)
  have hL3 := (unhide HL).below hb03 hb
  have hL0 : At5 w3 b off x := by have := hL3 0 (by simp); rw [Nat.zero_mul, Nat.add_zero] at this; exact this
  obtain ⟨e0, e1, e2, e3, e4⟩ := hL0.cells
  have HL3 := hide hL3
  clear hL3 hL0 c0 c1 c2 c3 c4 hb2 hb3 hb1 HH2 E1
  have hB3 := hb03.size
  go_upto_if 46 with fail
  go_cut [4] from 14 (fun _ wd => Below w.heap.size w wd)
  case first =>
    by_cases hd : 1 < x.t - x.f
    case neg =>
      go_wp2
      go_meet
      case rel => exact hb03.alloc hb03.size _
    obtain ⟨y, hy⟩ : ∃ y : Rg, y = ⟨x.v, x.f, x.f + 1, x.k, x.a⟩ := ⟨_, rfl⟩
    obtain ⟨z, hz⟩ : ∃ z : Rg, z = ⟨x.v, x.f + 1, x.t, x.k, x.a⟩ := ⟨_, rfl⟩
    have E2 := hide (fun w ao cap (h : Held w ao (y :: z :: T)) => encode_any (y :: z :: T) ao cap w h (by simp only [List.length_cons]; omega))
    rw [encV_no (no_tab (show follows y z = false by rw [hy, hz]; simp [follows]))] at E2
    have HY := hide (And.intro hy hz)
    clear hy hz
    go_wp2_with (at_builtin; refine wpList_append_own _ rfl (.tmp 56) (.tmp 59) 28 rfl w.heap.size 30 i0 (.agg #[.int .i64 0, .int .i64 0, .int .i64 0, .int .i64 0, .int .i64 0]) 5 40 Try.underlying28 hi hz0 hz1 hz2 rfl (by decide) _ 0 [] rfl (World.ownsRow_nil _ _ _ _) ⟨w3.heap.size + 2, 0, none⟩ 2 2 [.int .i64 x.v, .int .i64 x.f, .int .i64 (x.f + 1), .int .i64 x.k, .int .i64 x.a, .int .i64 x.v, .int .i64 (x.f + 1), .int .i64 x.t, .int .i64 x.k, .int .i64 x.a] rfl rfl ?e1 ?e2 ?e3 ?e4 ?e5 ?_)
    case e1 => exact cells_new _ _ (by simp) 30 _
    case e2 => intro u hu; simp only [List.mem_cons, List.not_mem_nil, or_false] at hu; rcases hu with rfl | rfl | rfl | rfl | rfl | rfl | rfl | rfl | rfl | rfl <;> rfl
    case e3 => decide
    case e4 => decide
    case e5 => simp; omega
    intro v4 w4 ho4 hgr4 _
    have hb4 : Below w.heap.size w w4 := (((hb03.alloc hb03.size _).alloc (by simp; omega) _).alloc (by simp; omega) _).grown hgr4 (by simp; omega) (fun k h => by cases h)
    have hsT : ∀ j u, (cellsOf T)[j]? = some u → w4.cell? ((⟨b, off + 5, none⟩ : Addr).add j) = some u := fun j u hj => by rw [add_plain]; exact shift_src (lie_src ((unhide HL).below hb4 hb)) j u hj
    have HST := hide hsT
    have HCT := hide (cellsOf_len T)
    have hB4 := hb4.size
    clear hgr4 hsT
    by_cases hc1 : cap = 1
    · have hTz : T = [] := List.length_eq_zero_iff.1 (by omega)
      subst hTz
      subst hc1
      go_wp2_with (at_builtin; go_must (refine wpList_append_own _ rfl (.tmp 61) (.tmp 63) 28 rfl w.heap.size 30 i0 (.agg #[.int .i64 0, .int .i64 0, .int .i64 0, .int .i64 0, .int .i64 0]) 5 40 Try.underlying28 hi hz0 hz1 hz2 rfl (by decide) v4 2 [.int .i64 x.v, .int .i64 x.f, .int .i64 (x.f + 1), .int .i64 x.k, .int .i64 x.a, .int .i64 x.v, .int .i64 (x.f + 1), .int .i64 x.t, .int .i64 x.k, .int .i64 x.a] rfl ho4 ⟨b, off, none⟩ 0 0 [] rfl rfl ?f1 ?f2 ?f3 ?f4 ?f5 ?_))
      case f1 => intro j u hj; simp at hj
      case f2 => intro u hu; simp at hu
      case f3 => decide
      case f4 => decide
      case f5 => exact hB4
      intro v5 w5 ho5 hgr5 _
      have hb5 : Below w.heap.size w w5 := hb4.grown hgr5 hb4.size (own_ge ho4)
      have ho6 : w5.ownsRow w.heap.size 30 5 v5 (y :: z :: []).length (cellsOf (y :: z :: [])) := by
        rw [cellsOf_cons, cellsOf_cons, (unhide HY).1, (unhide HY).2]
        have e : (y :: z :: []).length = 2 + ([] : List Rg).length := by simp only [List.length_cons]; omega
        first | (rw [(unhide HY).1, (unhide HY).2] at e; rw [e]; exact ho5) | (rw [e]; exact ho5)
      obtain ⟨a5, q5, rfl, hh5, _, _, _⟩ := own_held ho6
      have HH5 := hide hh5
      clear ho4 ho5 ho6 hh5 hgr5
      go_wp2_with fail
      refine (unhide E2 _ _ _ (unhide HH5)).mono ?_
      rintro e w6 ⟨rfl, hb6⟩
      go_wp2
      go_meet
      case rel => exact hb5.trans (hb6.mono hb5.size)
    · have hc2 : ¬ (cap : Int) = 1 := by omega
      go_wp2_with (at_builtin; go_must (refine wpList_append_own _ rfl (.tmp 61) (.tmp 63) 28 rfl w.heap.size 30 i0 (.agg #[.int .i64 0, .int .i64 0, .int .i64 0, .int .i64 0, .int .i64 0]) 5 40 Try.underlying28 hi hz0 hz1 hz2 rfl (by decide) v4 2 [.int .i64 x.v, .int .i64 x.f, .int .i64 (x.f + 1), .int .i64 x.k, .int .i64 x.a, .int .i64 x.v, .int .i64 (x.f + 1), .int .i64 x.t, .int .i64 x.k, .int .i64 x.a] rfl ho4 ⟨b, off + 5, none⟩ T.length (cap - 1) (cellsOf T) rfl (unhide HCT) (unhide HST) ?g2 ?g3 ?g4 ?g5 ?_))
      case g2 => exact cells_one _
      case g3 => unfold maxLen; omega
      case g4 => omega
      case g5 => exact hB4
      intro v5 w5 ho5 hgr5 _
      have hb5 : Below w.heap.size w w5 := hb4.grown hgr5 hb4.size (own_ge ho4)
      have ho6 : w5.ownsRow w.heap.size 30 5 v5 (y :: z :: T).length (cellsOf (y :: z :: T)) := by
        rw [cellsOf_cons, cellsOf_cons, (unhide HY).1, (unhide HY).2]
        have e : (y :: z :: T).length = 2 + T.length := by simp only [List.length_cons]; omega
        first | (rw [(unhide HY).1, (unhide HY).2] at e; rw [e]; exact ho5) | (rw [e]; exact ho5)
      obtain ⟨a5, q5, rfl, hh5, _, _, _⟩ := own_held ho6
      have HH5 := hide hh5
      clear ho4 ho5 ho6 hh5 hgr5
      go_wp2_with fail
      refine (unhide E2 _ _ _ (unhide HH5)).mono ?_
      rintro e w6 ⟨rfl, hb6⟩
      go_wp2
      go_meet
      case rel => exact hb5.trans (hb6.mono hb5.size)
  case rest =>
    by_cases hT0 : T = []
    · subst hT0
      go_wp2
      go_ret
      exact ⟨rfl, hcut⟩
    · obtain ⟨y, U, rfl⟩ := List.exists_cons_of_ne_nil hT0
      have hy : isRg y = true := isTab_rg (k := 1) (unhide HT) (by simp)
      have hfo : follows x y = true := by
        have h := unhide HT
        unfold isTab tabTo at h
        rw [Bool.and_eq_true, List.all_eq_true] at h
        have := h.2 1 (by rw [List.mem_range]; simp)
        have e : follows (rg (x :: y :: U) (1 - 1)) (rg (x :: y :: U) 1) = follows x y := rfl
        rw [e] at this
        simpa using (Bool.and_eq_true _ _ ▸ this : _ ∧ _).2
      have E3 := hide (fun w ao cap (h : Held w ao (y :: x :: U)) => encode_any (y :: x :: U) ao cap w h (by simp only [List.length_cons] at *; omega))
      rw [encV_no (no_tab (follows_back (unhide HX) hy hfo))] at E3
      have hLc := (unhide HL).below hcut hb
      have hA0 : At5 wc b off x := by have := hLc 0 (by simp); rw [Nat.zero_mul, Nat.add_zero] at this; exact this
      have hA1 : At5 wc b (off + 5) y := hLc 1 (by simp)
      obtain ⟨p0, p1, p2, p3, p4⟩ := hA0.cells
      obtain ⟨r0, r1, r2, r3, r4⟩ := hA1.cells
      have HCut := hide hcut
      have hBc := hcut.size
      have hn2 : (1 : Int) < (U.length : Int) + 1 + 1 := by omega
      have hn3 : (2 : Int) ≤ (U.length : Int) + 1 + 1 := by omega
      have hn4 : (0 : Int) < (U.length : Int) + 1 + 1 := by omega
      rw [List.length_cons] at hn hcap
      clear hLc hA0 hA1 hy hfo hT0
      go_upto_region 21 with fail
      go_region_held3 (fun w' => w'.cell? ⟨b, off, none⟩ = some (.int .i64 x.v) ∧ w'.cell? ⟨b, off + 1, none⟩ = some (.int .i64 x.f) ∧ w'.cell? ⟨b, off + 2, none⟩ = some (.int .i64 x.t) ∧ w'.cell? ⟨b, off + 3, none⟩ = some (.int .i64 x.k) ∧ w'.cell? ⟨b, off + 4, none⟩ = some (.int .i64 x.a) ∧ w'.cell? ⟨b, off + 5, none⟩ = some (.int .i64 y.v) ∧ w'.cell? ⟨b, off + 5 + 1, none⟩ = some (.int .i64 y.f) ∧ w'.cell? ⟨b, off + 5 + 2, none⟩ = some (.int .i64 y.t) ∧ w'.cell? ⟨b, off + 5 + 3, none⟩ = some (.int .i64 y.k) ∧ w'.cell? ⟨b, off + 5 + 4, none⟩ = some (.int .i64 y.a))
        (first
          | go_keep
          | (go_split_ands
             refine ⟨?_, ?_, ?_, ?_, ?_, ?_, ?_, ?_, ?_, ?_⟩
             all_goals (rw [hgrow.cell_far _ (by simp; omega) (by simp [Value.ownBlock])]; assumption)))
        ((refine step_append_lies _ (by rfl) _ _ _ (by rfl) w.heap.size 30 i0 _ 5 40 Try.underlying28 hi hz0 hz1 hz2 rfl (by omega) (.slice none 0 0) 0 [] (by rfl) (World.ownsRow_nil _ _ _ _)
            ⟨wc.heap.size, 0, none⟩ 2 2 [.int .i64 y.v, .int .i64 y.f, .int .i64 y.t, .int .i64 y.k, .int .i64 y.a, .int .i64 x.v, .int .i64 x.f, .int .i64 x.t, .int .i64 x.k, .int .i64 x.a] (by rfl) (by rfl) (World.news_of_block (cs := #[.int .i64 y.v, .int .i64 y.f, .int .i64 y.t, .int .i64 y.k, .int .i64 y.a, .int .i64 x.v, .int .i64 x.f, .int .i64 x.t, .int .i64 x.k, .int .i64 x.a]) (t := 30) (fr := (0, 0)) (heap_alloc_new wc _)) (by simp [Value.oneCell'])
            (by omega) (by decide) (by decide) (by simp; omega) (wc.heap.size + 1) (by simp) ?_; intro gg cap2 w4 ho4 hgrow hat hglt))
      have hb4 : Below w.heap.size w w4 := (((unhide HCut).alloc (unhide HCut).size _).drew).grown hgrow (by simp; omega) (fun k h => by cases h)
      have hsU : ∀ j u, (cellsOf U)[j]? = some u → w4.cell? ((⟨b, off + 10, none⟩ : Addr).add j) = some u := fun j u hj => by rw [add_plain]; exact shift_src (shift_src (lie_src ((unhide HL).below hb4 hb))) j u hj
      have HSU := hide hsU
      have HCU := hide (cellsOf_len U)
      have hB4 := hb4.size
      clear hgrow hsU hat
      by_cases hc2 : cap = 2
      · have hUz : U = [] := List.length_eq_zero_iff.1 (by omega)
        subst hUz
        subst hc2
        go_wp2_with (at_builtin; go_must (refine wpList_append_own _ rfl (.tmp 84) (.tmp 86) 28 rfl w.heap.size 30 i0 (.agg #[.int .i64 0, .int .i64 0, .int .i64 0, .int .i64 0, .int .i64 0]) 5 40 Try.underlying28 hi hz0 hz1 hz2 rfl (by decide) _ 2 [.int .i64 y.v, .int .i64 y.f, .int .i64 y.t, .int .i64 y.k, .int .i64 y.a, .int .i64 x.v, .int .i64 x.f, .int .i64 x.t, .int .i64 x.k, .int .i64 x.a] rfl ho4 ⟨b, off, none⟩ 0 0 [] rfl rfl ?h1 ?h2 ?h3 ?h4 ?h5 ?_))
        case h1 => intro j u hj; simp at hj
        case h2 => intro u hu; simp at hu
        case h3 => decide
        case h4 => decide
        case h5 => exact hB4
        intro v5 w5 ho5 hgr5 _
        have hb5 : Below w.heap.size w w5 := hb4.grown hgr5 hb4.size (own_ge ho4)
        have ho6 : w5.ownsRow w.heap.size 30 5 v5 (y :: x :: []).length (cellsOf (y :: x :: [])) := by
          rw [cellsOf_cons, cellsOf_cons]
          have e : (y :: x :: []).length = 2 + ([] : List Rg).length := by simp only [List.length_cons]; omega
          rw [e]; exact ho5
        obtain ⟨a5, q5, rfl, hh5, _, _, _⟩ := own_held ho6
        have HH5 := hide hh5
        clear ho4 ho5 ho6 hh5 hgr5
        go_wp2_with fail
        refine (unhide E3 _ _ _ (unhide HH5)).mono ?_
        rintro e w6 ⟨rfl, hb6⟩
        go_wp2
        go_ret
        exact ⟨rfl, hb5.trans (hb6.mono hb5.size)⟩
      · have hc3 : ¬ (cap : Int) = 2 := by omega
        go_wp2_with (at_builtin; go_must (refine wpList_append_own _ rfl (.tmp 84) (.tmp 86) 28 rfl w.heap.size 30 i0 (.agg #[.int .i64 0, .int .i64 0, .int .i64 0, .int .i64 0, .int .i64 0]) 5 40 Try.underlying28 hi hz0 hz1 hz2 rfl (by decide) _ 2 [.int .i64 y.v, .int .i64 y.f, .int .i64 y.t, .int .i64 y.k, .int .i64 y.a, .int .i64 x.v, .int .i64 x.f, .int .i64 x.t, .int .i64 x.k, .int .i64 x.a] rfl ho4 ⟨b, off + 10, none⟩ U.length (cap - 2) (cellsOf U) rfl (unhide HCU) (unhide HSU) ?k2 ?k3 ?k4 ?k5 ?_))
        case k2 => exact cells_one _
        case k3 => unfold maxLen; omega
        case k4 => omega
        case k5 => exact hB4
        intro v5 w5 ho5 hgr5 _
        have hb5 : Below w.heap.size w w5 := hb4.grown hgr5 hb4.size (own_ge ho4)
        have ho6 : w5.ownsRow w.heap.size 30 5 v5 (y :: x :: U).length (cellsOf (y :: x :: U)) := by
          rw [cellsOf_cons, cellsOf_cons]
          have e : (y :: x :: U).length = 2 + (U : List Rg).length := by simp only [List.length_cons]; omega
          rw [e]; exact ho5
        obtain ⟨a5, q5, rfl, hh5, _, _, _⟩ := own_held ho6
        have HH5 := hide hh5
        clear ho4 ho5 ho6 hh5 hgr5
        go_wp2_with fail
        refine (unhide E3 _ _ _ (unhide HH5)).mono ?_
        rintro e w6 ⟨rfl, hb6⟩
        go_wp2
        go_ret
        exact ⟨rfl, hb5.trans (hb6.mono hb5.size)⟩
end Go.Proofs.Ytoepcplbpochpaa
