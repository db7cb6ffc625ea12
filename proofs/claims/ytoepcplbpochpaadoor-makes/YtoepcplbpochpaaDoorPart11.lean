/-
  What the document's own search for a live register keeps to, in memory.
-/
import Derived.Test.YtoepcplbpochpaaDoorPart8
import Derived.Test.YtoepcplbpochpaaDoorPart10
import Derived.Laws.AppendOwnNone
import Derived.Test.YtoepcplbpochpaaDoorPart3

namespace Go.Proofs.YtoepcplbpochpaaDoor
open Go.RowKit

theorem newC_low {been : Nat → Bool} : ∀ n, newC been n ≤ n
  | 0 => Nat.le_refl _
  | n + 1 => by
    have := newC_low (been := been) n
    unfold newC
    split <;> omega
/-- How long a list is. -/
def slLen : Value → Nat
  | .slice _ n _ => n
  | _ => 0
/-- The list of what is still to be looked at, the row of the places that it has been at, the program, all in memory. -/
structure SeekB (w wr : World) (P R V : Int) (sl : Value) (n : Nat) (been : Nat → Bool) (todo : List Int) (v : Value) : Prop where
  own : wr.ownsRow (w.heap.size + 2) 3 1 v todo.length (intCells todo)
  row : Rowd wr (w.heap.size + 1) 4 n (fun k => .bool (been k))
  p : ProgB wr w.heap.size P R V sl
  bel : Below w.heap.size w wr
  few : 2 * newC been n + todo.length ≤ 2 * n + 1
theorem SeekB.big {w wr : World} {P R V : Int} {sl : Value} {n : Nat} {been : Nat → Bool} {todo : List Int} {v : Value} (h : SeekB w wr P R V sl n been todo v) : w.heap.size + 2 ≤ wr.heap.size := h.row.lt
theorem SeekB.below {w wr w' : World} {P R V : Int} {sl : Value} {n : Nat} {been : Nat → Bool} {todo : List Int} {v : Value} (h : SeekB w wr P R V sl n been todo v) (hb : Below wr.heap.size wr w') : SeekB w w' P R V sl n been todo v :=
  ⟨own_keep h.own (Keep.of_below hb (fun _ => False)) (fun _ _ h => h), h.row.below hb, h.p.below hb, h.bel.trans (hb.mono h.bel.size), h.few⟩
theorem SeekB.measure {w wr : World} {P R V : Int} {sl : Value} {n : Nat} {been : Nat → Bool} {todo : List Int} {v : Value} (h : SeekB w wr P R V sl n been todo v) : 2 * newC (beenW wr (w.heap.size + 1)) n + slLen v = 2 * newC been n + todo.length := by
  rw [newC_row h.row n (Nat.le_refl _)]
  obtain ⟨ao, cap, hv, _⟩ := own_heldI h.own
  rw [hv]; rfl
/-- The last is taken off. -/
theorem SeekB.pop {w wr : World} {P R V : Int} {sl : Value} {n : Nat} {been : Nat → Bool} {t : List Int} {z : Int} {v : Value} (h : SeekB w wr P R V sl n been (t ++ [z]) v) :
    ∃ g cap, v = .slice (some ⟨g, 0, none⟩) (t.length + 1) cap ∧ t.length + 1 ≤ cap ∧ wr.cell? ⟨g, t.length, none⟩ = some (.int .i64 z) ∧ SeekB w wr P R V sl n been t (.slice (some ⟨g, 0, none⟩) t.length cap) := by
  obtain ⟨g, cap, hv, _, _, hc, hz, ho⟩ := todo_last h.own
  have hf := h.few
  rw [List.length_append] at hf
  exact ⟨g, cap, hv, hc, hz, ho, h.row, h.p, h.bel, by omega⟩
/-- It has been at one place more. -/
theorem SeekB.at {w wr : World} {P R V : Int} {sl : Value} {n : Nat} {been : Nat → Bool} {t : List Int} {v : Value} (h : SeekB w wr P R V sl n been t v) (j : Nat) : SeekB w (wr.setCell ⟨w.heap.size + 1, j, none⟩ (.bool true)) P R V sl n (fun k => k == j || been k) t v := by
  have hk : Keep (fun k => k = w.heap.size + 1) wr (wr.setCell ⟨w.heap.size + 1, j, none⟩ (.bool true)) := keep_set (Keep.refl _ _) _ _
  refine ⟨own_keep h.own hk (fun k hk e => by have := (own_in h.own k hk).1; omega), been_set h.row, h.p.keep hk (by omega), h.bel.trans (hk.below h.bel.size (fun k hk e => by omega)), ?_⟩
  have := newC_le (been := been) (j := j) n
  have := h.few
  omega
/-- What an append leaves. -/
theorem SeekB.more {w wr w2 : World} {P R V : Int} {sl : Value} {n : Nat} {been : Nat → Bool} {t xs : List Int} {v v' : Value} (h : SeekB w wr P R V sl n been t v) (ho : w2.ownsRow (w.heap.size + 2) 3 1 v' (t.length + xs.length) (intCells t ++ intCells xs)) (hg : wr.grownBy w2 v.ownBlock) (hf : 2 * newC been n + t.length + xs.length ≤ 2 * n + 1) : SeekB w w2 P R V sl n been (t ++ xs) v' := by
  have hb : ∀ k, k < w.heap.size + 2 → w2.heap[k]? = wr.heap[k]? := fun k hk => grown_block (Keep.refl (fun _ => False) wr) hg (fun e => by have := (own_in h.own k e.symm).1; omega) (by have := h.big; omega)
  refine ⟨?_, h.row.of_block (hb _ (by omega)), (hb _ (by omega)).trans h.p, h.bel.grown hg h.bel.size (fun k e => by have := (own_in h.own k e).1; omega), by rw [List.length_append]; omega⟩
  rw [List.length_append]
  unfold intCells at ho ⊢
  rw [List.map_append]
  exact ho
theorem held_cells {w : World} {ad : Addr} {xs : List Int} (h : HeldI w (some ad) xs) : ∀ j u, (intCells xs)[j]? = some u → w.cell? (ad.add j) = some u := fun j v hv => by
  have hj : j < xs.length := by
    rcases Nat.lt_or_ge j xs.length with h | h
    · exact h
    · rw [List.getElem?_eq_none (by rw [intCells_len]; exact h)] at hv; cases hv
  rcases h with h | ⟨b, off, e, _, hc⟩
  · subst h; exact absurd hj (Nat.not_lt_zero _)
  · injection e with e
    subst e
    have hadd : (⟨b, off, none⟩ : Addr).add j = ⟨b, off + j, none⟩ := by unfold Addr.add; split <;> simp_all
    rw [hadd, hc j hj]
    unfold intCells at hv
    rw [List.getElem?_map, List.getElem?_eq_getElem hj] at hv
    unfold nth
    rw [List.getD_eq_getElem?_getD, List.getElem?_eq_getElem hj]
    exact hv
theorem intCells_plain (l : List Int) : ∀ v ∈ intCells l, v.oneCell' = true := by
  intro v hv; unfold intCells at hv; obtain ⟨x, _, rfl⟩ := List.mem_map.1 hv; rfl
theorem list_last (l : List Int) : l = [] ∨ ∃ t z, l = t ++ [z] := by
  rcases List.eq_nil_or_concat l with h | ⟨t, z, h⟩
  · exact .inl h
  · exact .inr ⟨t, z, by rw [h, List.concat_eq_append]⟩
/-- All that comes next is no number below 0. -/
theorem right_nxt {P R V : Int} {L : List In4} (hp : RightP P R V L) : ∀ j, j < L.length → ∀ z ∈ nxtL (inAt L j) j, 0 ≤ z := fun j hj z hz => by
  obtain ⟨_, _, _, _, _, _, h7, h8, _⟩ := hp.ins j hj
  unfold nxtL at hz
  split at hz
  · next e => rw [List.mem_singleton.1 hz]; exact (h7 e).1
  split at hz
  · next e =>
    rcases List.mem_cons.1 hz with h | h
    · rw [h]; exact (h8 e).1
    · rw [List.mem_singleton.1 h]; omega
  split at hz
  · cases hz
  · rw [List.mem_singleton.1 hz]; omega
end Go.Proofs.YtoepcplbpochpaaDoor

/-
  Is a register live at a place: the document's own search (lodgeref.Live).
-/
namespace Go.Proofs.YtoepcplbpochpaaDoor
open Go.RowKit

theorem live_no {P R V : Int} {L : List In4} (hp : RightP P R V L) {r i : Nat} {been : Nat → Bool} (h : Seek L r i been []) : liveB L i r = false := by
  cases e : liveB L i r with
  | false => rfl
  | true => exact absurd ((live_iff (right_inside hp)).1 e) h.none
/-- The world at the head of the search. -/
theorem seek_start (w : World) (P R V : Int) (sl : Value) (n i : Nat) : ∃ w1 w2 w3, w1 = w.alloc (.cells #[.int .i64 P, .int .i64 R, .int .i64 V, sl] 24) ∧ w2 = w1.alloc (.cells (rowA n (fun _ => .bool false)) 4) ∧ w3 = w2.alloc (.cells #[.int .i64 (i : Int)] 3) ∧
    Hid (SeekB w w3 P R V sl n (fun _ => false) [(i : Int)] (.slice (some ⟨w.heap.size + 2, 0, none⟩) 1 1)) ∧ w1.heap.size = w.heap.size + 1 ∧ w2.heap.size = w.heap.size + 2 ∧ ProgB w1 w.heap.size P R V sl := by
  refine ⟨_, _, _, rfl, rfl, rfl, ?_, by simp, by simp, progb_alloc w P R V sl⟩
  have h1 := below_alloc (w.alloc (.cells #[.int .i64 P, .int .i64 R, .int .i64 V, sl] 24)) (.cells (rowA n (fun _ => .bool false)) 4)
  have h2 := below_alloc ((w.alloc (.cells #[.int .i64 P, .int .i64 R, .int .i64 V, sl] 24)).alloc (.cells (rowA n (fun _ => .bool false)) 4)) (.cells #[.int .i64 (i : Int)] 3)
  have hr : Rowd ((w.alloc (.cells #[.int .i64 P, .int .i64 R, .int .i64 V, sl] 24)).alloc (.cells (rowA n (fun _ => .bool false)) 4)) (w.heap.size + 1) 4 n (fun _ => .bool false) := at_alloc _ _ _ (by simp)
  refine ⟨?_, hr.below h2, ((progb_alloc w P R V sl).below h1).below h2, ((below_alloc _ _).alloc (by simp) _).alloc (by simp; omega) _, ?_⟩
  · have := todo_new ((w.alloc (.cells #[.int .i64 P, .int .i64 R, .int .i64 V, sl] 24)).alloc (.cells (rowA n (fun _ => .bool false)) 4)) (i : Int)
    rw [show ((w.alloc (.cells #[.int .i64 P, .int .i64 R, .int .i64 V, sl] 24)).alloc (.cells (rowA n (fun _ => .bool false)) 4)).heap.size = w.heap.size + 2 by simp] at this
    exact this
  · have := newC_low (been := fun _ => false) n
    show 2 * _ + 1 ≤ _
    omega

set_option maxRecDepth 100000 in
set_option maxHeartbeats 8000000 in
theorem live_any (P R V : Int) (L : List In4) (ao : Option Addr) (cap i r : Nat) (hp : RightP P R V L) (hi : i < L.length) (w : World) (hH : HeldIns w ao L) :
    Calls Tryd.prog 76 #[.agg #[.int .i64 P, .int .i64 R, .int .i64 V, .slice ao L.length cap], .int .i64 i, .int .i64 r] w fun e w' => e = .returned (.bool (liveB L i r)) ∧ Below w.heap.size w w' := by
  have hn40 := hp.n40
  obtain ⟨b, off, rfl, hb, hI⟩ := held_at hH hp.n1
  obtain ⟨i0, hi0, hz0, hz1', hz2'⟩ := info_parts Tryd.info3
  have HI := hide hI
  have HP := hide hp
  have HH := hide hH
  have KR := hide refReads_any
  have KW := hide refWrites_any
  have KN := hide nexts_any
  obtain ⟨w1, w2, w3, hw1, hw2, hw3, HB3, hz1, hz2, hP1⟩ := seek_start w P R V (.slice (some ⟨b, off, none⟩) L.length cap) L.length i
  have hmk := makeB L.length (by omega) w1
  rw [← hw2] at hmk
  have p3 := hP1.c3
  have HW1 := hide hw1
  have HW3 := hide hw3
  have HS0 : Hid (Seek L r i (fun _ => false) [(i : Int)]) := Seek.begin hi
  clear hI hH hp hw1 hw2 hw3 hP1
  go_enter Tryd.func76, Tryd.ntmps76
  go_upto_region 1 with fail
  rw [← unhide HW1]
  go_upto_region 3 with fail
  rw [← unhide HW3]
  clear p3 hmk HW1 HW3
  go_loopw [8] (fun v wr => ∃ been todo, Hid (Seek L r i been todo) ∧ Hid (SeekB w wr P R V (.slice (some ⟨b, off, none⟩) L.length cap) L.length been todo v)) (fun v wr => 2 * newC (beenW wr (w.heap.size + 1)) L.length + slLen v)
  case atStart => exact ⟨_, _, unhide HS0, unhide HB3⟩
  case round =>
    obtain ⟨been, todo, HS, HB⟩ := hrel
    have HM := hide (unhide HB).measure
    rcases list_last todo with rfl | ⟨t, z, rfl⟩
    · obtain ⟨ta, tc, rfl, _, _⟩ := own_heldI (unhide HB).own
      have HE := hide (live_no (unhide HP) (unhide HS))
      go_wp2_with fail
      go_ret
      exact ⟨ret_bool (unhide HE).symm, (unhide HB).bel⟩
    · obtain ⟨g, tc, rfl, hcap, hz, hB'⟩ := (unhide HB).pop
      obtain ⟨j, rfl, hj⟩ := (unhide HS).lt z (List.mem_append.2 (.inr (List.mem_singleton.2 rfl)))
      have HB1 := hide hB'
      have cb := (unhide HB).row.cell hj
      have hjl : (j : Int) < (L.length : Int) := by omega
      have hj0 : (0 : Int) ≤ (j : Int) := by omega
      have htl : t.length ≤ 100 := by have := (unhide HB1).few; omega
      obtain ⟨bj, hbj⟩ : ∃ bj, bj = been j := ⟨_, rfl⟩
      rw [← hbj] at cb
      have HBJ := hide hbj
      clear hB' hbj
      cases bj
      · have hf : ∀ o, wr.frozen? ⟨w.heap.size + 1, o, none⟩ = false := (unhide HB).row.free
        have HB4 := hide ((unhide HB1).at j)
        obtain ⟨w4, hw4⟩ : ∃ w4, w4 = wr.setCell ⟨w.heap.size + 1, j, none⟩ (.bool true) := ⟨_, rfl⟩
        rw [← hw4] at HB4
        have HW4 := hide hw4
        clear hw4
        go_upto_region 8 with fail
        rw [← unhide HW4]
        clear cb hf hz HW4
        have p3 := (unhide HB4).p.c3
        obtain ⟨q0, q1, q2, q3⟩ := ((unhide HI) j hj).below (unhide HB4).bel hb
        obtain ⟨x, hx⟩ : ∃ x, x = inAt L j := ⟨_, rfl⟩
        have hxo : 0 ≤ x.op ∧ x.op ≤ 14 := by rw [hx]; exact ⟨((unhide HP).ins j hj).1, (unhide HP).low j hj⟩
        rw [← hx] at q0 q1 q2 q3
        have HX := hide hx
        clear hx
        obtain ⟨op, d, a, b'⟩ := x
        simp only at q0 q1 q2 q3 hxo
        have KR1 := hide (unhide KR op d a b' r hxo w4)
        obtain ⟨n, hn⟩ : ∃ n, n = rdC ⟨op, d, a, b'⟩ (r : Int) := ⟨_, rfl⟩
        rw [← hn] at KR1
        have HN := hide hn
        clear hn
        go_wp2_with fail
        refine (unhide KR1).mono ?_
        rintro _ w5 ⟨rfl, hb5⟩
        have HB5 := hide ((unhide HB4).below hb5)
        clear q0 q1 q2 q3 p3 hb5 HB4 KR1
        by_cases hn0 : 0 < n
        · have hn1 : (0 : Int) < (n : Int) := by omega
          have HE := hide ((live_iff (right_inside (unhide HP))).2 ((unhide HS).yes (by rw [← unhide HX]; exact rdC_iff.1 (by rw [← unhide HN]; exact hn0))))
          go_wp2_with fail
          go_ret
          exact ⟨ret_bool (unhide HE).symm, (unhide HB5).bel⟩
        have hn1 : ¬ (0 : Int) < (n : Int) := by omega
        have HRD : Hid (rdB (inAt L j) r = false) := by
          unfold Hid
          cases e : rdB (inAt L j) r with
          | false => rfl
          | true => rw [← unhide HX] at e; have := rdC_iff.2 e; rw [← unhide HN] at this; exact absurd this hn0
        have p3 := (unhide HB5).p.c3
        obtain ⟨q0, q1, q2, q3⟩ := ((unhide HI) j hj).below (unhide HB5).bel hb
        rw [← unhide HX] at q0 q1 q2 q3
        simp only at q0 q1 q2 q3
        have KW1 := hide (unhide KW op d a b' r hxo w5)
        obtain ⟨tw, htw⟩ : ∃ t, t = wrB ⟨op, d, a, b'⟩ (r : Int) := ⟨_, rfl⟩
        rw [← htw] at KW1
        have HTW := hide htw
        clear htw hn0
        go_wp2_with fail
        refine (unhide KW1).mono ?_
        rintro _ w6 ⟨rfl, hb6⟩
        have HB6 := hide ((unhide HB5).below hb6)
        clear q0 q1 q2 q3 p3 hb6 HB5 KW1
        have HC := hide (newC_on (been := been) (j := j) (unhide HBJ).symm L.length hj)
        cases tw
        · have p0 := (unhide HB6).p.c0
          have p1 := (unhide HB6).p.c1
          have p2 := (unhide HB6).p.c2
          have p3 := (unhide HB6).p.c3
          have KN1 := hide (unhide KN P R V L (some ⟨b, off, none⟩) cap j hj hn40 w6 ((unhide HH).below (unhide HB6).bel))
          have HSN := hide ((unhide HS).on (right_inside (unhide HP)) (right_nxt (unhide HP)) (unhide HRD) (more := nxtL (inAt L j) j) (by rw [← unhide HX, ← unhide HTW, if_neg (by decide)]))
          have hl2 := nxtL_len (inAt L j) j
          obtain ⟨xs, hxs⟩ : ∃ xs, xs = nxtL (inAt L j) j := ⟨_, rfl⟩
          unfold NextPost at KN1
          rw [← hxs] at KN1 HSN hl2
          clear hxs
          go_wp2_with fail
          refine (unhide KN1).mono ?_
          rintro _ w7 ⟨so, sc, rfl, hN, hb7, hnil⟩
          have HB7 := hide ((unhide HB6).below hb7)
          have hown := (unhide HB7).own
          have hbig := (unhide HB7).big
          have htl := (unhide HB7).few
          clear p0 p1 p2 p3 hb7 HB6 KN1
          cases so with
          | none =>
            obtain ⟨rfl, rfl⟩ := hnil rfl
            go_wp2_with (at_builtin; refine wpList_append_own_none rfl _ _ 32 rfl (w.heap.size + 2) 3 i0 1 Tryd.underlying32 hi0 _ _ _ rfl hown rfl ?_)
            go_roundw
            case rel => exact ⟨_, _, by rw [List.append_nil] at HSN; exact unhide HSN, unhide HB7⟩
            case measure =>
              have h1 := (unhide HB7).measure
              have h2 := unhide HM
              have h3 := unhide HC
              rw [List.length_append, List.length_singleton] at h2
              rw [h1, h2]; omega
          | some ad =>
            have hnews := held_cells hN
            have hpl := intCells_plain xs
            go_wp2_with (at_builtin; refine wpList_append_own _ rfl _ _ 32 rfl (w.heap.size + 2) 3 i0 (.int .i64 0) 1 8 Tryd.underlying32 hi0 hz0 hz1' hz2' rfl (by decide) _ _ _ rfl hown ad xs.length sc (intCells xs) rfl (by rw [intCells_len, Nat.mul_one]) hnews hpl (by unfold maxLen; omega) (by omega) hbig ?_)
            intro v' w8 hown' hgrow _
            have hf' : 2 * newC (fun k => k == j || been k) L.length + t.length + xs.length ≤ 2 * L.length + 1 := by
              have h3 := unhide HC
              have h4 := (unhide HB).few
              rw [List.length_append, List.length_singleton] at h4
              omega
            have HB8 := hide ((unhide HB7).more hown' hgrow hf')
            clear hown' hgrow hown hnews hpl hN
            go_wp2_with fail
            go_roundw
            case rel => exact ⟨_, _, unhide HSN, unhide HB8⟩
            case measure =>
              have h1 := (unhide HB8).measure
              have h2 := unhide HM
              have h3 := unhide HC
              rw [List.length_append, List.length_singleton] at h2
              rw [List.length_append] at h1
              rw [h1, h2]; omega
        · have HSN := hide ((unhide HS).on (right_inside (unhide HP)) (right_nxt (unhide HP)) (unhide HRD) (more := []) (by rw [← unhide HX, ← unhide HTW, if_pos rfl]))
          go_wp2_with fail
          go_roundw
          case rel => exact ⟨_, _, by rw [List.append_nil] at HSN; exact unhide HSN, unhide HB6⟩
          case measure =>
            have h1 := (unhide HB6).measure
            have h2 := unhide HM
            have h3 := unhide HC
            rw [List.length_append, List.length_singleton] at h2
            rw [h1, h2]; omega
      · go_wp2_with fail
        go_roundw
        case rel => exact ⟨been, t, (unhide HS).again (unhide HBJ).symm, unhide HB1⟩
        case measure =>
          have h1 := (unhide HB1).measure
          have h2 := unhide HM
          rw [List.length_append, List.length_singleton] at h2
          rw [h1, h2]; omega
end Go.Proofs.YtoepcplbpochpaaDoor

/-
  Is a register live at an instruction that may come next: lodgeref.liveNext, where an instruction writes; do two registers collide: lodgeref.meets.
-/
namespace Go.Proofs.YtoepcplbpochpaaDoor
open Go.RowKit

theorem nxtL_wr {x : In4} {i : Nat} (h : isWr x.op = true) : nxtL x i = [(i : Int) + 1] := by
  unfold isWr isRk at h
  rw [Bool.or_eq_true, Bool.or_eq_true, Bool.and_eq_true, decide_eq_true_iff, decide_eq_true_iff, beq_iff_eq, beq_iff_eq] at h
  unfold nxtL
  rw [if_neg (by omega), if_neg (by omega), if_neg (by omega)]
set_option maxRecDepth 100000 in
set_option maxHeartbeats 8000000 in
theorem liveNext_any (P R V : Int) (L : List In4) (ao : Option Addr) (cap i r : Nat) (hp : RightP P R V L) (hi : i < L.length) (hwr : isWr (inAt L i).op = true) (w : World) (hH : HeldIns w ao L) :
    Calls Tryd.prog 120 #[.agg #[.int .i64 P, .int .i64 R, .int .i64 V, .slice ao L.length cap], .int .i64 i, .int .i64 r] w fun e w' => e = .returned (.bool (liveB L (i + 1) r)) ∧ Below w.heap.size w w' := by
  have hn40 := hp.n40
  have hi1 := (right_wr hp i hi hwr).2.2
  obtain ⟨w1, hw1, HP1, HL1, hz1⟩ := pbox w P R V (.slice ao L.length cap)
  have HW := hide hw1
  have KN := hide (nexts_any P R V L ao cap i hi hn40 w1 (hH.below (unhide HL1)))
  have HNX := hide (nxtL_wr (i := i) hwr)
  have KL := hide (fun w' (h : HeldIns w' ao L) => live_any P R V L ao cap (i + 1) r hp hi1 w' h)
  have HH1 : Hid (HeldIns w1 ao L) := hH.below (unhide HL1)
  have p0 := (unhide HP1).c0
  have p1 := (unhide HP1).c1
  have p2 := (unhide HP1).c2
  have p3 := (unhide HP1).c3
  clear hw1 hp hwr hH
  go_enter Tryd.func120, Tryd.ntmps120
  go_upto_region 1 with fail
  rw [← unhide HW]
  go_wp2_with fail
  refine (unhide KN).mono ?_
  rintro _ w2 ⟨so, sc, rfl, hN, hb2, _⟩
  rw [unhide HNX] at hN
  rw [unhide HNX]
  obtain ⟨bb, oo, rfl, hbb, hc⟩ : ∃ b off, so = some ⟨b, off, none⟩ ∧ b < w2.heap.size ∧ ∀ k, k < 1 → w2.cell? ⟨b, off + k, none⟩ = some (.int .i64 (nth [(i : Int) + 1] k)) := by
    rcases hN with h | h
    · cases h
    · exact h
  have HB2 : Hid (ProgB w2 w.heap.size P R V (.slice ao L.length cap)) := (unhide HP1).below hb2
  have HL2 : Hid (Below w.heap.size w w2) := (unhide HL1).trans (hb2.mono (by omega))
  have HH2 : Hid (HeldIns w2 ao L) := (unhide HH1).below hb2
  have HC2 : Hid (w2.cell? ⟨bb, oo, none⟩ = some (.int .i64 ((i : Int) + 1))) := hc 0 (by decide)
  clear hc hN hb2 p0 p1 p2 p3 HP1 HL1 HH1 KN
  go_wp2_with fail
  go_loopw [8] (fun i' wr => ∃ k : Nat, k ≤ 1 ∧ i' = .int .i64 k ∧ (k = 1 → liveB L (i + 1) r = false) ∧ Hid (ProgB wr w.heap.size P R V (.slice ao L.length cap)) ∧ Hid (Below w.heap.size w wr) ∧ Hid (HeldIns wr ao L) ∧ Hid (wr.cell? ⟨bb, oo, none⟩ = some (.int .i64 ((i : Int) + 1))) ∧ bb < wr.heap.size) (fun i' _ => 1 - (intOf i').toNat)
  case atStart => exact ⟨0, by omega, rfl, fun h => absurd h (by decide), unhide HB2, unhide HL2, unhide HH2, unhide HC2, hbb⟩
  case round =>
    clear HB2 HL2 HH2 HC2
    obtain ⟨k, hk, rfl, HF', HB, HL, HH, HC, hbw⟩ := hrel
    have HF := hide HF'
    clear HF'
    rcases (show k = 0 ∨ k = 1 by omega) with rfl | rfl
    · have p0 := (unhide HB).c0
      have p1 := (unhide HB).c1
      have p2 := (unhide HB).c2
      have p3 := (unhide HB).c3
      have c0 := unhide HC
      have hwl : w.heap.size < wr.heap.size := (unhide HB).lt
      obtain ⟨t, ht⟩ : ∃ t, t = liveB L (i + 1) r := ⟨_, rfl⟩
      rw [← ht] at KL
      have HTL := hide ht
      have HBL := hide (And.intro hwl hbw)
      clear ht
      go_wp2_with fail
      go_region_held3 (fun w' => w'.cell? ⟨w.heap.size, 0, none⟩ = some (.int .i64 P) ∧ w'.cell? ⟨w.heap.size, 1, none⟩ = some (.int .i64 R) ∧ w'.cell? ⟨w.heap.size, 2, none⟩ = some (.int .i64 V) ∧ w'.cell? ⟨w.heap.size, 3, none⟩ = some (.slice ao L.length cap) ∧ w'.cell? ⟨bb, oo, none⟩ = some (.int .i64 ((i : Int) + 1))) (first | assumption | (exact ⟨p0, p1, p2, p3, c0⟩) | (exact ⟨z0, z1, z2, z3, z4⟩))
        ((go_at_call 76; refine (unhide KL wr.drew (unhide HH)).mono ?_; rintro e w5 ⟨rfl, hb5'⟩; have hb5 : Below wr.heap.size wr w5 := ⟨hb5'.os, hb5'.tape, hb5'.output, hb5'.size, hb5'.block⟩; clear hb5'; have HB5 := hide ((unhide HB).below hb5); have HL5 : Hid (Below w.heap.size w w5) := (unhide HL).trans (hb5.mono (unhide HL).size); have HH5 : Hid (HeldIns w5 ao L) := (unhide HH).below hb5; have hbw5 : bb < w5.heap.size := Nat.lt_of_lt_of_le hbw hb5.size; have z4 : w5.cell? ⟨bb, oo, none⟩ = some (.int .i64 ((i : Int) + 1)) := (hb5.cell (p := ⟨bb, oo, none⟩) hbw).trans c0; have z0 := (unhide HB5).c0; have z1 := (unhide HB5).c1; have z2 := (unhide HB5).c2; have z3 := (unhide HB5).c3; clear p0 p1 p2 p3 c0 hb5))
      cases t
      · go_wp2_with fail
        go_roundw
        case rel => exact ⟨1, by omega, rfl, fun _ => (unhide HTL).symm, unhide HB5, unhide HL5, unhide HH5, z4, hbw5⟩
        case measure => simp [intOf]
      · go_wp2_with fail
        go_ret
        exact ⟨ret_bool (unhide HTL), unhide HL5⟩
    · have HE := hide ((unhide HF) rfl)
      go_wp2_with fail
      go_ret
      exact ⟨ret_bool (unhide HE).symm, unhide HL⟩
end Go.Proofs.YtoepcplbpochpaaDoor

/-
  Do two registers collide: lodgeref.meets.
-/
namespace Go.Proofs.YtoepcplbpochpaaDoor
open Go.RowKit

/-- A program that was boxed, and its code. -/
structure PB (w wr : World) (P R V : Int) (L : List In4) (ao : Option Addr) (cap : Nat) : Prop where
  p : ProgB wr w.heap.size P R V (.slice ao L.length cap)
  code : HeldIns wr ao L
  bel : Below w.heap.size w wr
theorem PB.next {w wr w' : World} {P R V : Int} {L : List In4} {ao : Option Addr} {cap : Nat} (h : PB w wr P R V L ao cap) (hb : Below wr.heap.size wr w') : PB w w' P R V L ao cap := ⟨h.p.below hb, h.code.below hb, h.bel.trans (hb.mono h.bel.size)⟩
theorem pb_start (w : World) (P R V : Int) (L : List In4) (ao : Option Addr) (cap : Nat) (hH : HeldIns w ao L) : ∃ w1, w1 = w.alloc (.cells #[.int .i64 P, .int .i64 R, .int .i64 V, .slice ao L.length cap] 24) ∧ Hid (PB w w1 P R V L ao cap) ∧ w1.heap.size = w.heap.size + 1 :=
  ⟨_, rfl, ⟨progb_alloc w P R V _, hH.below (below_alloc _ _), below_alloc _ _⟩, by simp⟩
theorem PB.at4 {w wr : World} {P R V : Int} {L : List In4} {b off : Nat} {cap : Nat} (h : PB w wr P R V L (some ⟨b, off, none⟩) cap) {k : Nat} (hk : k < L.length) : At4 wr b (off + k * 4) (inAt L k) := by
  rcases h.code with e | ⟨b', off', e, _, hc⟩
  · rw [e] at hk; exact absurd hk (Nat.not_lt_zero _)
  · injection e with e
    injection e with e1 e2
    subst e1; subst e2
    exact hc k hk
/-- No instruction of the first makes them collide. -/
def noHit (L : List In4) (a b k : Nat) : Prop := ∀ i, i < k → ¬ (isWr (inAt L i).op = true ∧ (((inAt L i).d = (a : Int) ∧ liveB L (i + 1) b = true) ∨ ((inAt L i).d = (b : Int) ∧ liveB L (i + 1) a = true)))
theorem wrB_parts {x : In4} {r : Int} (h : wrB x r = true) : isWr x.op = true ∧ x.d = r := by
  unfold wrB at h; rw [Bool.and_eq_true, beq_iff_eq] at h; exact h
theorem hit_yes {L : List In4} {R a b k : Nat} (ha : a < R) (hk : k < L.length) (h : wrB (inAt L k) a = true) (hl : liveB L (k + 1) b = true) : hitB L R a b = true :=
  (hit_iff L R ha).2 (.inr ⟨k, hk, (wrB_parts h).1, .inl ⟨(wrB_parts h).2, hl⟩⟩)
theorem hit_yes2 {L : List In4} {R a b k : Nat} (ha : a < R) (hk : k < L.length) (h : wrB (inAt L k) b = true) (hl : liveB L (k + 1) a = true) : hitB L R a b = true :=
  (hit_iff L R ha).2 (.inr ⟨k, hk, (wrB_parts h).1, .inr ⟨(wrB_parts h).2, hl⟩⟩)
theorem hit_no {L : List In4} {R a b : Nat} (ha : a < R) (h0 : ¬ (liveB L 0 a = true ∧ liveB L 0 b = true)) (h : noHit L a b L.length) : hitB L R a b = false := by
  cases e : hitB L R a b with
  | false => rfl
  | true =>
    rcases (hit_iff L R ha).1 e with g | ⟨i, hi, g1, g2⟩
    · exact absurd g h0
    · exact absurd ⟨g1, g2⟩ (h i hi)
theorem noHit.succ {L : List In4} {a b k : Nat} (h : noHit L a b k) (h1 : wrB (inAt L k) a = false ∨ liveB L (k + 1) b = false) (h2 : wrB (inAt L k) b = false ∨ liveB L (k + 1) a = false) : noHit L a b (k + 1) := fun i hi => by
  by_cases e : i = k
  · subst e
    rintro ⟨g1, ⟨g2, g3⟩ | ⟨g2, g3⟩⟩
    · have : wrB (inAt L i) a = true := by unfold wrB; rw [g1, g2, beq_self_eq_true]; rfl
      rcases h1 with h1 | h1
      · rw [h1] at this; cases this
      · rw [h1] at g3; cases g3
    · have : wrB (inAt L i) b = true := by unfold wrB; rw [g1, g2, beq_self_eq_true]; rfl
      rcases h2 with h2 | h2
      · rw [h2] at this; cases this
      · rw [h2] at g3; cases g3
  · exact h i (by omega)

set_option maxRecDepth 100000 in
set_option maxHeartbeats 8000000 in
theorem meets_any (P V : Int) (R : Nat) (L : List In4) (ao : Option Addr) (cap a b : Nat) (hp : RightP P R V L) (ha : a < R) (_hb : b < R) (w : World) (hH : HeldIns w ao L) :
    Calls Tryd.prog 94 #[.agg #[.int .i64 P, .int .i64 R, .int .i64 V, .slice ao L.length cap], .int .i64 a, .int .i64 b] w fun e w' => e = .returned (.bool (hitB L R a b)) ∧ Below w.heap.size w w' := by
  have hn40 := hp.n40
  have hn1 := hp.n1
  obtain ⟨bb, off, rfl, hbb, hI⟩ := held_at hH hp.n1
  obtain ⟨w1, hw1, HB1, hz1⟩ := pb_start w P R V L (some ⟨bb, off, none⟩) cap hH
  have HW := hide hw1
  have KL := hide (fun (r : Nat) w' (h : HeldIns w' (some ⟨bb, off, none⟩) L) => live_any P R V L (some ⟨bb, off, none⟩) cap 0 r hp hn1 w' h)
  have KX := hide (fun (k r : Nat) (hk : k < L.length) (hwr : isWr (inAt L k).op = true) w' (h : HeldIns w' (some ⟨bb, off, none⟩) L) => liveNext_any P R V L (some ⟨bb, off, none⟩) cap k r hp hk hwr w' h)
  have KW := hide refWrites_any
  have HOP : Hid (∀ k, k < L.length → 0 ≤ (inAt L k).op ∧ (inAt L k).op ≤ 14) := fun k hk => ⟨(hp.ins k hk).1, hp.low k hk⟩
  clear hw1 hp hH hI hn1
  go_enter Tryd.func94, Tryd.ntmps94
  go_upto_region 1 with fail
  rw [← unhide HW]
  have p0 := (unhide HB1).p.c0
  have p1 := (unhide HB1).p.c1
  have p2 := (unhide HB1).p.c2
  have p3 := (unhide HB1).p.c3
  go_wp2_with fail
  refine (unhide KL a w1 (unhide HB1).code).mono ?_
  rintro _ w2 ⟨rfl, hb2⟩
  have HB2 := hide ((unhide HB1).next hb2)
  clear p0 p1 p2 p3 hb2 HB1
  have p0 := (unhide HB2).p.c0
  have p1 := (unhide HB2).p.c1
  have p2 := (unhide HB2).p.c2
  have p3 := (unhide HB2).p.c3
  go_wp2_with fail
  refine (unhide KL b w2 (unhide HB2).code).mono ?_
  rintro _ w3 ⟨rfl, hb3⟩
  have HB3 := hide ((unhide HB2).next hb3)
  clear p0 p1 p2 p3 hb3 HB2
  have p3 := (unhide HB3).p.c3
  obtain ⟨ta, hta⟩ : ∃ t, t = liveB L 0 a := ⟨_, rfl⟩
  obtain ⟨tb, htb⟩ : ∃ t, t = liveB L 0 b := ⟨_, rfl⟩
  rw [← hta, ← htb]
  have HTA := hide hta
  have HTB := hide htb
  clear hta htb
  by_cases hboth : ta = true ∧ tb = true
  · obtain ⟨rfl, rfl⟩ := hboth
    have HE := hide ((hit_iff L R (b := b) ha).2 (.inl ⟨(unhide HTA).symm, (unhide HTB).symm⟩))
    go_wp2_with fail
    go_ret
    exact ⟨ret_bool (unhide HE).symm, (unhide HB3).bel⟩
  have HN0 : Hid (¬ (liveB L 0 a = true ∧ liveB L 0 b = true)) := fun h => hboth ⟨(unhide HTA).trans h.1, (unhide HTB).trans h.2⟩
  cases ta
  · clear HTA HTB hboth
    go_wp2_with fail
    go_loopw [9] (fun i' wr => ∃ k : Nat, k ≤ L.length ∧ i' = .int .i64 k ∧ Hid (noHit L a b k) ∧ Hid (PB w wr P R V L (some ⟨bb, off, none⟩) cap)) (fun i' _ => L.length - (intOf i').toNat)
    case atStart => exact ⟨0, Nat.zero_le _, rfl, fun i hi => absurd hi (Nat.not_lt_zero _), unhide HB3⟩
    case round =>
      clear HB3
      obtain ⟨k, hk, rfl, HNH, HB⟩ := hrel
      have p3 := (unhide HB).p.c3
      by_cases hlt : k < L.length
      case neg =>
        obtain rfl : k = L.length := by omega
        have HE := hide (hit_no ha (unhide HN0) (unhide HNH))
        go_wp2_with fail
        go_ret
        exact ⟨ret_bool (unhide HE).symm, (unhide HB).bel⟩
      have hki : (k : Int) < (L.length : Int) := by omega
      have hk0 : (0 : Int) ≤ (k : Int) := by omega
      have ho := unhide HOP k hlt
      obtain ⟨q0, q1, q2, q3⟩ := (unhide HB).at4 hlt
      obtain ⟨x, hx⟩ : ∃ x, x = inAt L k := ⟨_, rfl⟩
      rw [← hx] at q0 q1 q2 q3 ho
      obtain ⟨op, d, xa, xb⟩ := x
      simp only at q0 q1 q2 q3 ho
      have HO1 := hide ho
      have HX := hide hx
      clear ho hx
      obtain ⟨tu, htu⟩ : ∃ t, t = wrB ⟨op, d, xa, xb⟩ a := ⟨_, rfl⟩
      obtain ⟨tv, htv⟩ : ∃ t, t = wrB ⟨op, d, xa, xb⟩ b := ⟨_, rfl⟩
      have KW1 := hide (unhide KW op d xa xb a (unhide HO1) wr)
      rw [← htu] at KW1
      have HTU := hide htu
      have HTV := hide htv
      clear htu htv
      go_wp2_with fail
      refine (unhide KW1).mono ?_
      rintro _ w5 ⟨rfl, hb5⟩
      have HB5 := hide ((unhide HB).next hb5)
      clear q0 q1 q2 q3 p3 hb5 KW1
      cases tu
      · have p3 := (unhide HB5).p.c3
        obtain ⟨q0, q1, q2, q3⟩ := (unhide HB5).at4 hlt
        rw [← unhide HX] at q0 q1 q2 q3
        simp only at q0 q1 q2 q3
        have KW2 := hide (unhide KW op d xa xb b (unhide HO1) w5)
        rw [← unhide HTV] at KW2
        go_wp2_with fail
        refine (unhide KW2).mono ?_
        rintro _ w8 ⟨rfl, hb8⟩
        have HB8 := hide ((unhide HB5).next hb8)
        clear q0 q1 q2 q3 p3 hb8 KW2
        cases tv
        · go_wp2_with fail
          go_roundw
          case rel => exact ⟨k + 1, by omega, by go_num, (unhide HNH).succ (.inl (by rw [← unhide HX]; exact (unhide HTU).symm)) (.inl (by rw [← unhide HX]; exact (unhide HTV).symm)), unhide HB8⟩
          case measure => simp [intOf]; omega
        · have KX2 := hide (unhide KX k a hlt (by rw [← unhide HX]; exact (wrB_parts (unhide HTV).symm).1) w8 (unhide HB8).code)
          have p0 := (unhide HB8).p.c0
          have p1 := (unhide HB8).p.c1
          have p2 := (unhide HB8).p.c2
          have p3 := (unhide HB8).p.c3
          obtain ⟨tl, htl⟩ : ∃ t, t = liveB L (k + 1) a := ⟨_, rfl⟩
          rw [← htl] at KX2
          have HTL := hide htl
          clear htl
          go_wp2_with fail
          refine (unhide KX2).mono ?_
          rintro _ w9 ⟨rfl, hb9⟩
          have HB9 := hide ((unhide HB8).next hb9)
          clear p0 p1 p2 p3 hb9 KX2
          cases tl
          · go_wp2_with fail
            go_roundw
            case rel => exact ⟨k + 1, by omega, by go_num, (unhide HNH).succ (.inl (by rw [← unhide HX]; exact (unhide HTU).symm)) (.inr (unhide HTL).symm), unhide HB9⟩
            case measure => simp [intOf]; omega
          · have HE := hide (hit_yes2 (b := b) ha hlt (by rw [← unhide HX]; exact (unhide HTV).symm) (unhide HTL).symm)
            go_wp2_with fail
            go_ret
            exact ⟨ret_bool (unhide HE).symm, (unhide HB9).bel⟩
      · have KX1 := hide (unhide KX k b hlt (by rw [← unhide HX]; exact (wrB_parts (unhide HTU).symm).1) w5 (unhide HB5).code)
        have p0 := (unhide HB5).p.c0
        have p1 := (unhide HB5).p.c1
        have p2 := (unhide HB5).p.c2
        have p3 := (unhide HB5).p.c3
        obtain ⟨tb, htb⟩ : ∃ t, t = liveB L (k + 1) b := ⟨_, rfl⟩
        rw [← htb] at KX1
        have HTB := hide htb
        clear htb
        go_wp2_with fail
        refine (unhide KX1).mono ?_
        rintro _ w6 ⟨rfl, hb6⟩
        have HB6 := hide ((unhide HB5).next hb6)
        clear p0 p1 p2 p3 hb6 KX1
        cases tb
        · have p3 := (unhide HB6).p.c3
          obtain ⟨q0, q1, q2, q3⟩ := (unhide HB6).at4 hlt
          rw [← unhide HX] at q0 q1 q2 q3
          simp only at q0 q1 q2 q3
          have KW2 := hide (unhide KW op d xa xb b (unhide HO1) w6)
          rw [← unhide HTV] at KW2
          go_wp2_with fail
          refine (unhide KW2).mono ?_
          rintro _ w8 ⟨rfl, hb8⟩
          have HB8 := hide ((unhide HB6).next hb8)
          clear q0 q1 q2 q3 p3 hb8 KW2
          cases tv
          · go_wp2_with fail
            go_roundw
            case rel => exact ⟨k + 1, by omega, by go_num, (unhide HNH).succ (.inr (unhide HTB).symm) (.inl (by rw [← unhide HX]; exact (unhide HTV).symm)), unhide HB8⟩
            case measure => simp [intOf]; omega
          · have KX2 := hide (unhide KX k a hlt (by rw [← unhide HX]; exact (wrB_parts (unhide HTV).symm).1) w8 (unhide HB8).code)
            have p0 := (unhide HB8).p.c0
            have p1 := (unhide HB8).p.c1
            have p2 := (unhide HB8).p.c2
            have p3 := (unhide HB8).p.c3
            obtain ⟨tl, htl⟩ : ∃ t, t = liveB L (k + 1) a := ⟨_, rfl⟩
            rw [← htl] at KX2
            have HTL := hide htl
            clear htl
            go_wp2_with fail
            refine (unhide KX2).mono ?_
            rintro _ w9 ⟨rfl, hb9⟩
            have HB9 := hide ((unhide HB8).next hb9)
            clear p0 p1 p2 p3 hb9 KX2
            cases tl
            · go_wp2_with fail
              go_roundw
              case rel => exact ⟨k + 1, by omega, by go_num, (unhide HNH).succ (.inr (unhide HTB).symm) (.inr (unhide HTL).symm), unhide HB9⟩
              case measure => simp [intOf]; omega
            · have HE := hide (hit_yes2 (b := b) ha hlt (by rw [← unhide HX]; exact (unhide HTV).symm) (unhide HTL).symm)
              go_wp2_with fail
              go_ret
              exact ⟨ret_bool (unhide HE).symm, (unhide HB9).bel⟩
        · have HE := hide (hit_yes (b := b) ha hlt (by rw [← unhide HX]; exact (unhide HTU).symm) (unhide HTB).symm)
          go_wp2_with fail
          go_ret
          exact ⟨ret_bool (unhide HE).symm, (unhide HB6).bel⟩
  · obtain rfl : tb = false := by cases tb; rfl; exact absurd ⟨rfl, rfl⟩ hboth
    clear HTA HTB hboth
    go_wp2_with fail
    go_loopw [9] (fun i' wr => ∃ k : Nat, k ≤ L.length ∧ i' = .int .i64 k ∧ Hid (noHit L a b k) ∧ Hid (PB w wr P R V L (some ⟨bb, off, none⟩) cap)) (fun i' _ => L.length - (intOf i').toNat)
    case atStart => exact ⟨0, Nat.zero_le _, rfl, fun i hi => absurd hi (Nat.not_lt_zero _), unhide HB3⟩
    case round =>
      clear HB3
      obtain ⟨k, hk, rfl, HNH, HB⟩ := hrel
      have p3 := (unhide HB).p.c3
      by_cases hlt : k < L.length
      case neg =>
        obtain rfl : k = L.length := by omega
        have HE := hide (hit_no ha (unhide HN0) (unhide HNH))
        go_wp2_with fail
        go_ret
        exact ⟨ret_bool (unhide HE).symm, (unhide HB).bel⟩
      have hki : (k : Int) < (L.length : Int) := by omega
      have hk0 : (0 : Int) ≤ (k : Int) := by omega
      have ho := unhide HOP k hlt
      obtain ⟨q0, q1, q2, q3⟩ := (unhide HB).at4 hlt
      obtain ⟨x, hx⟩ : ∃ x, x = inAt L k := ⟨_, rfl⟩
      rw [← hx] at q0 q1 q2 q3 ho
      obtain ⟨op, d, xa, xb⟩ := x
      simp only at q0 q1 q2 q3 ho
      have HO1 := hide ho
      have HX := hide hx
      clear ho hx
      obtain ⟨tu, htu⟩ : ∃ t, t = wrB ⟨op, d, xa, xb⟩ a := ⟨_, rfl⟩
      obtain ⟨tv, htv⟩ : ∃ t, t = wrB ⟨op, d, xa, xb⟩ b := ⟨_, rfl⟩
      have KW1 := hide (unhide KW op d xa xb a (unhide HO1) wr)
      rw [← htu] at KW1
      have HTU := hide htu
      have HTV := hide htv
      clear htu htv
      go_wp2_with fail
      refine (unhide KW1).mono ?_
      rintro _ w5 ⟨rfl, hb5⟩
      have HB5 := hide ((unhide HB).next hb5)
      clear q0 q1 q2 q3 p3 hb5 KW1
      cases tu
      · have p3 := (unhide HB5).p.c3
        obtain ⟨q0, q1, q2, q3⟩ := (unhide HB5).at4 hlt
        rw [← unhide HX] at q0 q1 q2 q3
        simp only at q0 q1 q2 q3
        have KW2 := hide (unhide KW op d xa xb b (unhide HO1) w5)
        rw [← unhide HTV] at KW2
        go_wp2_with fail
        refine (unhide KW2).mono ?_
        rintro _ w8 ⟨rfl, hb8⟩
        have HB8 := hide ((unhide HB5).next hb8)
        clear q0 q1 q2 q3 p3 hb8 KW2
        cases tv
        · go_wp2_with fail
          go_roundw
          case rel => exact ⟨k + 1, by omega, by go_num, (unhide HNH).succ (.inl (by rw [← unhide HX]; exact (unhide HTU).symm)) (.inl (by rw [← unhide HX]; exact (unhide HTV).symm)), unhide HB8⟩
          case measure => simp [intOf]; omega
        · have KX2 := hide (unhide KX k a hlt (by rw [← unhide HX]; exact (wrB_parts (unhide HTV).symm).1) w8 (unhide HB8).code)
          have p0 := (unhide HB8).p.c0
          have p1 := (unhide HB8).p.c1
          have p2 := (unhide HB8).p.c2
          have p3 := (unhide HB8).p.c3
          obtain ⟨tl, htl⟩ : ∃ t, t = liveB L (k + 1) a := ⟨_, rfl⟩
          rw [← htl] at KX2
          have HTL := hide htl
          clear htl
          go_wp2_with fail
          refine (unhide KX2).mono ?_
          rintro _ w9 ⟨rfl, hb9⟩
          have HB9 := hide ((unhide HB8).next hb9)
          clear p0 p1 p2 p3 hb9 KX2
          cases tl
          · go_wp2_with fail
            go_roundw
            case rel => exact ⟨k + 1, by omega, by go_num, (unhide HNH).succ (.inl (by rw [← unhide HX]; exact (unhide HTU).symm)) (.inr (unhide HTL).symm), unhide HB9⟩
            case measure => simp [intOf]; omega
          · have HE := hide (hit_yes2 (b := b) ha hlt (by rw [← unhide HX]; exact (unhide HTV).symm) (unhide HTL).symm)
            go_wp2_with fail
            go_ret
            exact ⟨ret_bool (unhide HE).symm, (unhide HB9).bel⟩
      · have KX1 := hide (unhide KX k b hlt (by rw [← unhide HX]; exact (wrB_parts (unhide HTU).symm).1) w5 (unhide HB5).code)
        have p0 := (unhide HB5).p.c0
        have p1 := (unhide HB5).p.c1
        have p2 := (unhide HB5).p.c2
        have p3 := (unhide HB5).p.c3
        obtain ⟨tb, htb⟩ : ∃ t, t = liveB L (k + 1) b := ⟨_, rfl⟩
        rw [← htb] at KX1
        have HTB := hide htb
        clear htb
        go_wp2_with fail
        refine (unhide KX1).mono ?_
        rintro _ w6 ⟨rfl, hb6⟩
        have HB6 := hide ((unhide HB5).next hb6)
        clear p0 p1 p2 p3 hb6 KX1
        cases tb
        · have p3 := (unhide HB6).p.c3
          obtain ⟨q0, q1, q2, q3⟩ := (unhide HB6).at4 hlt
          rw [← unhide HX] at q0 q1 q2 q3
          simp only at q0 q1 q2 q3
          have KW2 := hide (unhide KW op d xa xb b (unhide HO1) w6)
          rw [← unhide HTV] at KW2
          go_wp2_with fail
          refine (unhide KW2).mono ?_
          rintro _ w8 ⟨rfl, hb8⟩
          have HB8 := hide ((unhide HB6).next hb8)
          clear q0 q1 q2 q3 p3 hb8 KW2
          cases tv
          · go_wp2_with fail
            go_roundw
            case rel => exact ⟨k + 1, by omega, by go_num, (unhide HNH).succ (.inr (unhide HTB).symm) (.inl (by rw [← unhide HX]; exact (unhide HTV).symm)), unhide HB8⟩
            case measure => simp [intOf]; omega
          · have KX2 := hide (unhide KX k a hlt (by rw [← unhide HX]; exact (wrB_parts (unhide HTV).symm).1) w8 (unhide HB8).code)
            have p0 := (unhide HB8).p.c0
            have p1 := (unhide HB8).p.c1
            have p2 := (unhide HB8).p.c2
            have p3 := (unhide HB8).p.c3
            obtain ⟨tl, htl⟩ : ∃ t, t = liveB L (k + 1) a := ⟨_, rfl⟩
            rw [← htl] at KX2
            have HTL := hide htl
            clear htl
            go_wp2_with fail
            refine (unhide KX2).mono ?_
            rintro _ w9 ⟨rfl, hb9⟩
            have HB9 := hide ((unhide HB8).next hb9)
            clear p0 p1 p2 p3 hb9 KX2
            cases tl
            · go_wp2_with fail
              go_roundw
              case rel => exact ⟨k + 1, by omega, by go_num, (unhide HNH).succ (.inr (unhide HTB).symm) (.inr (unhide HTL).symm), unhide HB9⟩
              case measure => simp [intOf]; omega
            · have HE := hide (hit_yes2 (b := b) ha hlt (by rw [← unhide HX]; exact (unhide HTV).symm) (unhide HTL).symm)
              go_wp2_with fail
              go_ret
              exact ⟨ret_bool (unhide HE).symm, (unhide HB9).bel⟩
        · have HE := hide (hit_yes (b := b) ha hlt (by rw [← unhide HX]; exact (unhide HTU).symm) (unhide HTB).symm)
          go_wp2_with fail
          go_ret
          exact ⟨ret_bool (unhide HE).symm, (unhide HB6).bel⟩
end Go.Proofs.YtoepcplbpochpaaDoor

/-
  Plain mathematics: the document's own way to find the first colour that is not taken.
-/
namespace Go.Proofs.YtoepcplbpochpaaDoor
open Go.RowKit

/-- The colours of the first s registers with which r collides, as a list. -/
def takL (h : Nat → Nat → Bool) (c : Nat → Nat) (r : Nat) : Nat → List Int
  | 0 => []
  | s + 1 => takL h c r s ++ if h s r = true then [(c s : Int)] else []
theorem takL_len (h : Nat → Nat → Bool) (c : Nat → Nat) (r : Nat) : ∀ s, (takL h c r s).length ≤ s
  | 0 => Nat.le_refl _
  | s + 1 => by
    have := takL_len h c r s
    show (takL h c r s ++ ite _ _ _ : List Int).length ≤ s + 1
    rw [List.length_append]
    split <;> simp <;> omega
theorem takL_mem {h : Nat → Nat → Bool} {c : Nat → Nat} {r : Nat} {z : Int} : ∀ {s}, z ∈ takL h c r s ↔ ∃ q, q < s ∧ h q r = true ∧ z = (c q : Int)
  | 0 => ⟨fun h => absurd h List.not_mem_nil, fun ⟨q, hq, _⟩ => absurd hq (Nat.not_lt_zero _)⟩
  | s + 1 => by
    show z ∈ takL h c r s ++ (if h s r = true then [(c s : Int)] else []) ↔ _
    rw [List.mem_append, takL_mem]
    constructor
    · rintro (⟨q, h1, h2⟩ | hh)
      · exact ⟨q, by omega, h2⟩
      · split at hh
        · next e => exact ⟨s, by omega, e, List.mem_singleton.1 hh⟩
        · cases hh
    · rintro ⟨q, h1, h2, h3⟩
      by_cases e : q = s
      · subst e; right; rw [if_pos h2]; exact List.mem_singleton.2 h3
      · exact .inl ⟨q, by omega, h2, h3⟩
/-- The first that is not taken is the one below which all are taken. -/
theorem firstF_eq {t : Nat → Bool} {c : Nat} (h1 : ∀ n, n < c → t n = true) (h2 : t c = false) (h3 : c ≤ 11) : firstF t = c := by
  obtain ⟨g1, g2, g3, g4⟩ := ff_spec t 11 0 ⟨c, Nat.zero_le _, by omega, h2⟩
  unfold firstF
  rcases Nat.lt_trichotomy (ffFrom t 0 11) c with h | h | h
  · rw [h1 _ h] at g1; cases g1
  · exact h
  · have := g4 c (Nat.zero_le _) h; rw [h2] at this; cases this
theorem taken_L {h : Nat → Nat → Bool} (hs : ∀ a b, h a b = h b a) {c : Nat → Nat} {r s n : Nat} : takenB h c r s n = true ↔ (n : Int) ∈ takL h c r s := by
  rw [taken_iff, takL_mem]
  exact ⟨fun ⟨q, h1, h2, h3⟩ => ⟨q, h1, by rw [hs]; exact h2, by omega⟩, fun ⟨q, h1, h2, h3⟩ => ⟨q, h1, by rw [hs]; exact h2, by omega⟩⟩
/-- All below c are taken. -/
def AllTk (t : List Int) (c : Nat) : Prop := ∀ n : Nat, n < c → (n : Int) ∈ t
theorem AllTk.le {h : Nat → Nat → Bool} {r c s : Nat} (hr : r ≤ 12) (hs : s ≤ r) (ha : AllTk (takL h (colTo h r) r s) c) : c ≤ s := by
  rcases Nat.lt_or_ge s c with hl | hl
  · obtain ⟨q, h1, h2, h3⟩ := takL_mem.1 (ha s hl)
    have := (colTo_le h r hr q (by omega)).1
    omega
  · exact hl
/-- None is taken at c, all below are: that is the colour. -/
theorem col_found {h : Nat → Nat → Bool} (hs : ∀ a b, h a b = h b a) {r c : Nat} (hr : r < 12) (ha : AllTk (takL h (colTo h r) r r) c) (hn : (c : Int) ∉ takL h (colTo h r) r r) : colTo h (r + 1) r = c := by
  have hle := ha.le (by omega) (Nat.le_refl _)
  show (if r = r then firstF (takenB h (colTo h r) r r) else colTo h r r) = c
  rw [if_pos rfl]
  refine firstF_eq (fun n hnc => (taken_L hs).2 (ha n hnc)) ?_ (by omega)
  cases e : takenB h (colTo h r) r r c with
  | false => rfl
  | true => exact absurd ((taken_L hs).1 e) hn
theorem AllTk.succ {t : List Int} {c : Nat} (h : AllTk t c) (hc : (c : Int) ∈ t) : AllTk t (c + 1) := fun n hn => by
  by_cases e : n = c
  · subst e; exact hc
  · exact h n (by omega)
/-- The first colours, as a list. -/
def colL (h : Nat → Nat → Bool) : Nat → List Int
  | 0 => []
  | r + 1 => colL h r ++ [(colTo h (r + 1) r : Int)]
theorem colL_len (h : Nat → Nat → Bool) : ∀ r, (colL h r).length = r
  | 0 => rfl
  | r + 1 => by show (colL h r ++ [_]).length = _; rw [List.length_append, colL_len h r]; rfl
theorem colL_at (h : Nat → Nat → Bool) : ∀ r q, q < r → (colL h r).getD q 0 = (colTo h r q : Int)
  | 0, q, hq => absurd hq (Nat.not_lt_zero _)
  | r + 1, q, hq => by
    show (colL h r ++ [(colTo h (r + 1) r : Int)]).getD q 0 = _
    rw [List.getD_eq_getElem?_getD]
    by_cases e : q = r
    · subst e
      rw [List.getElem?_append_right (by rw [colL_len]; exact Nat.le_refl _), colL_len, Nat.sub_self]; rfl
    · have hk : colTo h (r + 1) q = colTo h r q := by
        show (if q = r then _ else colTo h r q) = _
        rw [if_neg e]
      rw [List.getElem?_append_left (by rw [colL_len]; omega), ← List.getD_eq_getElem?_getD, colL_at h r q (by omega), hk]
end Go.Proofs.YtoepcplbpochpaaDoor
