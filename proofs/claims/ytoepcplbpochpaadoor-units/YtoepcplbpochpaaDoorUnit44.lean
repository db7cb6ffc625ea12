/-
  The args, and the targets: (*lodge.writer).loadParams, setTargets.
-/
import Derived.Test.YtoepcplbpochpaaDoorUnit43
import Derived.Deep.RegionHeld3

namespace Go.Proofs.YtoepcplbpochpaaDoor
open Go.RowKit

/-- What brings the first k args to their homes. -/
def loadC (hs : Nat → Bool) (ha : Nat → Nat) (s : Nat → Bool) : Nat → List In4
  | 0 => []
  | k + 1 => loadC hs ha s k ++ if (s k && !hs k) = true then [⟨15, ha k, k, 0⟩] else []
theorem loadC_len (hs : Nat → Bool) (ha : Nat → Nat) (s : Nat → Bool) : ∀ k, (loadC hs ha s k).length ≤ k
  | 0 => Nat.le_refl _
  | k + 1 => by
    have := loadC_len hs ha s k
    show (_ ++ ite _ _ _ : List In4).length ≤ k + 1
    rw [List.length_append]
    split <;> simp <;> omega

set_option maxRecDepth 100000 in
set_option maxHeartbeats 8000000 in
theorem loadParams_any (B : Nat) (hs : Nat → Bool) (ha : Nat → Nat) (K : Nat) (st : Nat → Nat) (C : List In4) (sv : Value) (P : Nat) (s : Nat → Bool) (w : World) (h : WrB w B hs ha K st C sv) (hP : P ≤ 12) (hl : C.length ≤ 900) :
    Calls Tryd.prog 98 #[.pointer (some ⟨B, 0, none⟩), .int .i64 P, .agg (rowA 12 (setV s))] w (WPost w B hs ha K st (C ++ loadC hs ha s P) sv (.tuple #[])) := by
  have KP := hide (fun w C sv (h : WrB w B hs ha K st C sv) x hl => put1_any B hs ha K st C sv x w h hl)
  have HLL := hide (loadC_len hs ha s)
  have HLS := hide (show ∀ k, loadC hs ha s (k + 1) = loadC hs ha s k ++ if (s k && !hs k) = true then [⟨15, ha k, k, 0⟩] else [] from fun _ => rfl)
  obtain ⟨w1, hw1, HC1, HL1, hz1⟩ := box_row w 105 12 (setV s)
  have HW := hide hw1
  have HB1 : Hid (WrB w1 B hs ha K st (C ++ loadC hs ha s 0) sv) := by rw [show loadC hs ha s 0 = [] from rfl, List.append_nil]; exact h.below (unhide HL1)
  have HS1 : Hid (WrStep B w sv w1 sv) := .below (unhide HL1)
  have HA1 : Hid (some w.heap.size ≠ sv.ownBlock) := h.apart (Nat.le_refl _)
  have hne : w.heap.size ≠ B := by have := h.lt; omega
  clear hw1 h HL1
  go_enter Tryd.func98, Tryd.ntmps98
  go_wp2_with fail
  rw [← unhide HW]
  go_wp2_with fail
  go_loopw [6] (fun i' wr => ∃ k : Nat, k ≤ P ∧ i' = .int .i64 k ∧ ∃ sv', Hid (WrB wr B hs ha K st (C ++ loadC hs ha s k) sv') ∧ Hid (WrStep B w sv wr sv') ∧ Hid (Rowd wr w.heap.size 105 12 (setV s)) ∧ Hid (some w.heap.size ≠ sv'.ownBlock)) (fun i' _ => P - (intOf i').toNat)
  case atStart => exact ⟨0, by omega, rfl, sv, unhide HB1, unhide HS1, unhide HC1, unhide HA1⟩
  case round =>
    clear HB1 HS1 HC1 HA1
    obtain ⟨k, hk, rfl, sv', HB, HS, HC, HA⟩ := hrel
    by_cases hlt : k < P
    case neg =>
      have hkP : k = P := by omega
      go_wp2_with fail
      go_returns
      exact ⟨rfl, sv', by rw [← hkP]; exact unhide HB, unhide HS⟩
    have hki : (k : Int) < 12 := by omega
    have c0 := (unhide HB).hs (r := k) (by omega)
    have c1 := (unhide HB).ha (r := k) (by omega)
    have s0 := (unhide HC).cell (show k < 12 by omega)
    unfold setV at s0
    have HE := hide (unhide HLS k)
    obtain ⟨a, hea⟩ : ∃ a, a = hs k := ⟨_, rfl⟩
    obtain ⟨b, heb⟩ : ∃ b, b = s k := ⟨_, rfl⟩
    rw [← hea] at c0 HE
    rw [← heb] at s0 HE
    clear hea heb
    obtain ⟨w3, hw3, e0, e1, HB3, hz3⟩ := box2 wr a (ha k)
    have HW3 := hide hw3
    have HW : Hid (WrB w3 B hs ha K st (C ++ loadC hs ha s k) sv') := (unhide HB).below (unhide HB3)
    have HS3 : Hid (WrStep B w sv w3 sv') := (unhide HS).trans (.below (unhide HB3))
    have HC3 := hide ((unhide HC).below (unhide HB3))
    have s3 : w3.cell? ⟨w.heap.size, k, none⟩ = some (.bool b) := ((unhide HB3).cell (p := ⟨w.heap.size, k, none⟩) (unhide HC).lt).trans s0
    clear hw3 HB HS HC HB3
    go_upto_region 5 with fail
    rw [← unhide HW3]
    clear c0 c1 s0 HW3
    rcases (show (b && !a) = true ∨ (b && !a) = false by cases b <;> cases a <;> simp) with hab | hab
    · have hb : b = true := by cases b <;> simp_all
      have ha0 : a = false := by cases a <;> simp_all
      subst hb ha0
      rw [if_pos (show (true && !false) = true from rfl)] at HE
      have KP' := hide (unhide KP w3 _ sv' (unhide HW) ⟨15, ha k, k, 0⟩ (by rw [List.length_append]; have := unhide HLL k; omega))
      simp only at KP'
      clear hab
      go_wp2_with fail
      refine (unhide KP').mono ?_
      rintro e w4 ⟨rfl, sv4, hw4, hs4⟩
      have HB4 : Hid (WrB w4 B hs ha K st (C ++ loadC hs ha s (k + 1)) sv4) := by rw [unhide HE, ← List.append_assoc]; exact hw4
      have HS4 : Hid (WrStep B w sv w4 sv4) := (unhide HS3).trans hs4
      have HC4 : Hid (Rowd w4 w.heap.size 105 12 (setV s)) := (unhide HC3).of_block (hs4.block (unhide HC3).lt hne (unhide HA))
      have HA4 : Hid (some w.heap.size ≠ sv4.ownBlock) := hs4.fresh _ (unhide HC3).lt (unhide HA)
      clear hw4 hs4 HW HS3 HC3 HA KP'
      go_wp2_with fail
      go_roundw
      case rel => exact ⟨k + 1, by omega, by go_num, sv4, unhide HB4, unhide HS4, unhide HC4, unhide HA4⟩
      case measure => simp [intOf]; omega
    · rw [hab, if_neg (by decide), List.append_nil] at HE
      have HB4 : Hid (WrB w3 B hs ha K st (C ++ loadC hs ha s (k + 1)) sv') := by rw [unhide HE]; exact unhide HW
      cases b
      · clear hab
        go_wp2_with fail
        go_roundw
        case rel => exact ⟨k + 1, by omega, by go_num, sv', unhide HB4, unhide HS3, unhide HC3, unhide HA⟩
        case measure => simp [intOf]; omega
      · have ha1 : a = true := by cases a <;> simp_all
        subst ha1
        clear hab
        go_wp2_with fail
        go_roundw
        case rel => exact ⟨k + 1, by omega, by go_num, sv', unhide HB4, unhide HS3, unhide HC3, unhide HA⟩
        case measure => simp [intOf]; omega

/-- An instruction with its target in the unit. -/
def tgt (st : Nat → Nat) (x : In4) : In4 := if x.op = 7 then ⟨x.op, x.d, st x.a.toNat, x.b⟩ else if x.op = 8 then ⟨x.op, x.d, x.a, st x.b.toNat⟩ else x
def tgtTo (st : Nat → Nat) : Nat → List In4 → List In4
  | 0, C => C
  | _ + 1, [] => []
  | k + 1, x :: C => tgt st x :: tgtTo st k C
theorem tgtTo_len (st : Nat → Nat) : ∀ k C, (tgtTo st k C).length = C.length
  | 0, _ => rfl
  | _ + 1, [] => rfl
  | k + 1, _ :: C => by show (tgtTo st k C).length + 1 = _; rw [tgtTo_len st k C]; rfl
theorem tgtTo_here (st : Nat → Nat) : ∀ k C, inAt (tgtTo st k C) k = inAt C k
  | 0, _ => rfl
  | _ + 1, [] => rfl
  | k + 1, _ :: C => tgtTo_here st k C
theorem tgtTo_step (st : Nat → Nat) : ∀ k C, k < C.length → tgtTo st (k + 1) C = (tgtTo st k C).set k (tgt st (inAt C k))
  | 0, [], h => by cases h
  | 0, _ :: _, _ => rfl
  | k + 1, [], h => by cases h
  | k + 1, x :: C, h => by
    show tgt st x :: tgtTo st (k + 1) C = tgt st x :: (tgtTo st k C).set k _
    rw [tgtTo_step st k C (by simpa using h)]; rfl
theorem tgtTo_all (st : Nat → Nat) : ∀ C, tgtTo st C.length C = C.map (tgt st)
  | [] => rfl
  | x :: C => by show tgt st x :: tgtTo st C.length C = _; rw [tgtTo_all st C]; rfl
theorem set_here : ∀ (C : List In4) (k : Nat), C.set k (inAt C k) = C
  | [], _ => rfl
  | _ :: _, 0 => rfl
  | x :: C, k + 1 => by show x :: C.set k (inAt C k) = _; rw [set_here C k]
/-- Writing one field of one instruction. -/
theorem insCells_set : ∀ (C : List In4) (i j : Nat) (v : Value) (x' : In4), j < 4 → i < C.length → x'.cells = (inAt C i).cells.set j v → (insCells C).set (i * 4 + j) v = insCells (C.set i x')
  | [], i, _, _, _, _, h, _ => by cases h
  | x :: C, 0, j, v, x', hj, _, he => by
    show (x.cells ++ insCells C).set (0 * 4 + j) v = x'.cells ++ insCells C
    rw [List.set_append_left _ _ (by show 0 * 4 + j < 4; omega), show 0 * 4 + j = j by omega, he]; rfl
  | x :: C, i + 1, j, v, x', hj, h, he => by
    show (x.cells ++ insCells C).set ((i + 1) * 4 + j) v = x.cells ++ insCells (C.set i x')
    rw [List.set_append_right _ _ (by show 4 ≤ (i + 1) * 4 + j; omega), show (i + 1) * 4 + j - x.cells.length = i * 4 + j by show (i + 1) * 4 + j - 4 = _; omega, insCells_set C i j v x' hj (by simpa using h) he]
theorem insCells_at : ∀ (C : List In4) (i j : Nat), i < C.length → j < 4 → (insCells C)[i * 4 + j]? = (inAt C i).cells[j]?
  | [], _, _, h, _ => by cases h
  | x :: C, 0, j, _, hj => by
    show (x.cells ++ insCells C)[0 * 4 + j]? = _
    rw [List.getElem?_append_left (by show 0 * 4 + j < 4; omega), show 0 * 4 + j = j by omega]; rfl
  | x :: C, i + 1, j, h, hj => by
    show (x.cells ++ insCells C)[(i + 1) * 4 + j]? = _
    rw [List.getElem?_append_right (by show 4 ≤ (i + 1) * 4 + j; omega), show (i + 1) * 4 + j - x.cells.length = i * 4 + j by show (i + 1) * 4 + j - 4 = _; omega, insCells_at C i j (by simpa using h) hj]; rfl
theorem own_set {w : World} {base g : Nat} {e : TypeId} {size n cap : Nat} {xs : List Value} (h : w.ownsRow base e size (.slice (some ⟨g, 0, none⟩) n cap) n xs) (j : Nat) (u : Value) : (w.setCell ⟨g, j, none⟩ u).ownsRow base e size (.slice (some ⟨g, 0, none⟩) n cap) n (xs.set j u) := by
  refine ⟨by rw [List.length_set]; exact h.1, .inr ?_⟩
  rcases h.2 with ⟨h1, _⟩ | ⟨g', cap', cur, h1, h2, h3, h4, h5, h6, h7⟩
  · cases h1
  · injection h1 with h1 h1' h1''
    injection h1 with h1
    injection h1 with h1
    subst h1 h1''
    refine ⟨g, cap, _, rfl, h2, heap_setCell_same w g j cur e u h3, h4, h5, by rw [Array.size_setIfInBounds]; exact h6, ?_⟩
    rw [Array.toList_setIfInBounds, ← h7, List.take_set]
/-- The code's slice. -/
theorem WrB.slice {w : World} {B : Nat} {hs : Nat → Bool} {ha : Nat → Nat} {K : Nat} {st : Nat → Nat} {C : List In4} {sv : Value} (h : WrB w B hs ha K st C sv) (hn : 1 ≤ C.length) : ∃ g cap, sv = .slice (some ⟨g, 0, none⟩) C.length cap ∧ B < g ∧ g < w.heap.size ∧ (∀ o, w.frozen? ⟨g, o, none⟩ = false) := by
  rcases h.own.2 with ⟨_, h0⟩ | ⟨g, cap, cur, h1, h2, h3, _⟩
  · omega
  · exact ⟨g, cap, h1, by omega, (Array.getElem?_eq_some_iff.1 h3).1, fun o => by simp [World.frozen?, h3]⟩
theorem own_ins {w : World} {base g n cap : Nat} {C : List In4} (h : w.ownsRow base 77 4 (.slice (some ⟨g, 0, none⟩) n cap) n (insCells C)) (hn : n = C.length) {i : Nat} (hi : i < C.length) : At4 w g (i * 4) (inAt C i) := by
  have key : ∀ j, j < 4 → w.cell? ⟨g, i * 4 + j, none⟩ = (inAt C i).cells[j]? := fun j hj => by
    have hc := World.ownsRow.cellAt h (i * 4 + j) (by omega)
    rw [hc]; exact insCells_at C i j hi hj
  exact ⟨key 0 (by omega), key 1 (by omega), key 2 (by omega), key 3 (by omega)⟩

theorem WrB.starts {w : World} {B : Nat} {hs : Nat → Bool} {ha : Nat → Nat} {K : Nat} {st : Nat → Nat} {C : List In4} {sv : Value} (h : WrB w B hs ha K st C sv) {i : Nat} (hi : i < 40) : w.cell? ⟨B, 26 + i, none⟩ = some (.int .i64 (st i)) := by
  rw [h.row.cell (by omega)]; unfold wrV; rw [if_neg (by omega), if_neg (by omega), if_neg (by omega), show 26 + i - 26 = i by omega]

set_option maxRecDepth 100000 in
set_option maxHeartbeats 8000000 in
theorem setTargets_any (B : Nat) (hs : Nat → Bool) (ha : Nat → Nat) (K : Nat) (st : Nat → Nat) (C : List In4) (sv : Value) (w : World) (h : WrB w B hs ha K st C sv) (hn : 1 ≤ C.length) (hl : C.length ≤ 900)
    (hC : ∀ i, i < C.length → ((inAt C i).op = 7 → 0 ≤ (inAt C i).a ∧ (inAt C i).a < 40) ∧ ((inAt C i).op = 8 → 0 ≤ (inAt C i).b ∧ (inAt C i).b < 40)) :
    Calls Tryd.prog 100 #[.pointer (some ⟨B, 0, none⟩)] w (WPost w B hs ha K st (C.map (tgt st)) sv (.tuple #[])) := by
  obtain ⟨g, cap, rfl, hBg, hgw, hgf⟩ := h.slice hn
  have HW0 := hide h
  have HC := hide hC
  have HST := hide (fun k hk => tgtTo_step st k C hk)
  have HLN := hide (fun k => tgtTo_len st k C)
  have HHR := hide (fun k => tgtTo_here st k C)
  have HAL := hide (tgtTo_all st C)
  clear h hC hgf
  go_enter Tryd.func100, Tryd.ntmps100
  go_wp2_with fail
  go_loopw [2] (fun i' wr => ∃ k : Nat, k ≤ C.length ∧ i' = .int .i64 k ∧ Hid (WrB wr B hs ha K st (tgtTo st k C) (.slice (some ⟨g, 0, none⟩) C.length cap)) ∧ Hid (WrStep B w (.slice (some ⟨g, 0, none⟩) C.length cap) wr (.slice (some ⟨g, 0, none⟩) C.length cap)) ∧ g < wr.heap.size) (fun i' _ => C.length - (intOf i').toNat)
  case atStart => exact ⟨0, by omega, rfl, unhide HW0, WrStep.refl _ _ _, hgw⟩
  case round =>
    obtain ⟨k, hk, rfl, HB, HS, hg⟩ := hrel
    have c25 := (unhide HB).sv
    by_cases hlt : k < C.length
    case neg =>
      have hkC : k = C.length := by omega
      go_wp2_with fail
      go_returns
      exact ⟨rfl, _, by have := unhide HB; rw [hkC, unhide HAL] at this; exact this, unhide HS⟩
    have hki : (k : Int) < C.length := by omega
    have hown := (unhide HB).own
    have hlen : C.length = (tgtTo st k C).length := (unhide HLN k).symm
    have hown' : wr.ownsRow (B + 1) 77 4 (.slice (some ⟨g, 0, none⟩) C.length cap) C.length (insCells (tgtTo st k C)) := by
      have := hown; rw [← hlen] at this; exact this
    have hat := own_ins hown' hlen (i := k) (by rw [← hlen]; exact hlt)
    rw [unhide HHR k] at hat
    have HO := hide hown'
    have HLE := hide hlen
    clear hown hown' hlen
    obtain ⟨x, hx⟩ : ∃ x, x = inAt C k := ⟨_, rfl⟩
    rw [← hx] at hat
    have hCk := unhide HC k hlt
    have HSk := hide (unhide HST k hlt)
    rw [← hx] at hCk HSk
    have HX := hide hx
    clear hx
    obtain ⟨q0, q1, q2, q3⟩ := hat
    obtain ⟨w3, hw3, hy, HB3, hz3⟩ := box4 wr x
    have HW3 := hide hw3
    have HR3 := hide ((unhide HB).below (unhide HB3))
    have HS3 : Hid (WrStep B w (.slice (some ⟨g, 0, none⟩) C.length cap) w3 (.slice (some ⟨g, 0, none⟩) C.length cap)) := (unhide HS).trans (.below (unhide HB3))
    have HO3 : Hid (w3.ownsRow (B + 1) 77 4 (.slice (some ⟨g, 0, none⟩) C.length cap) C.length (insCells (tgtTo st k C))) := own_keep (unhide HO) (Keep.of_below (unhide HB3) (fun _ => False)) (fun _ _ h => h)
    have hg3 : g < w3.heap.size := by omega
    obtain ⟨y0, y1, y2, y3⟩ := hy
    go_upto_region 4 with fail
    rw [← unhide HW3]
    clear q0 q1 q2 q3 c25 hw3 HW3 HB3 HO HB HS
    have c25 := (unhide HR3).sv
    have hBw := (unhide HR3).lt
    have hgf : ∀ o, w3.frozen? ⟨g, o, none⟩ = false := by
      rcases (unhide HO3).2 with ⟨h1, _⟩ | ⟨g', cap', cur, h1, h2, h3, _⟩
      · cases h1
      · injection h1 with h1
        injection h1 with h1
        injection h1 with h1
        subst h1
        intro o
        simp [World.frozen?, h3]
    have hq := own_ins (unhide HO3) (unhide HLE) (i := k) (by rw [← unhide HLE]; exact hlt)
    rw [unhide HHR k, ← unhide HX] at hq
    obtain ⟨q0, q1, q2, q3⟩ := hq
    have hNg : wr.heap.size ≠ g := by omega
    have hBn : B ≠ g := by omega
    -- what a store of one field leaves behind
    have HSET : Hid (∀ (j : Nat) (v : Int) (x' : In4), j < 4 → x' = tgt st x → x'.cells = x.cells.set j (.int .i64 v) → WrB ((w3.setCell ⟨g, k * 4 + j, none⟩ (.int .i64 v)).drew) B hs ha K st (tgtTo st (k + 1) C) (.slice (some ⟨g, 0, none⟩) C.length cap)) := fun j v x' hj hx' hc => by
      have hrow := ((unhide HR3).row.of_block (heap_setCell_other w3 ⟨g, k * 4 + j, none⟩ B (.int .i64 v) hBn)).drew
      refine ⟨hrow, ?_⟩
      have ho := own_set (unhide HO3) (k * 4 + j) (.int .i64 v)
      rw [insCells_set (tgtTo st k C) k j _ x' hj (by rw [← unhide HLE]; exact hlt) (by rw [unhide HHR k, ← unhide HX]; exact hc), hx', ← unhide HSk] at ho
      rw [unhide HLN (k + 1)]
      exact own_keep ho (Keep.refl (fun _ => False) _).drew (fun _ _ h => h)
    have HSTP : Hid (∀ (j : Nat) (v : Value), WrStep B w (.slice (some ⟨g, 0, none⟩) C.length cap) ((w3.setCell ⟨g, k * 4 + j, none⟩ v).drew) (.slice (some ⟨g, 0, none⟩) C.length cap)) := fun j v =>
      (unhide HS3).trans ⟨((Keep.refl (fun k => k = B ∨ some k = (Value.slice (some ⟨g, 0, none⟩) C.length cap).ownBlock) w3).setCell (p := ⟨g, k * 4 + j, none⟩) (.inr rfl) v).drew, fun _ _ h => h⟩
    have hkB : ∀ (wq : World) (j o : Nat) (z : Value), (wq.setCell ⟨g, j, none⟩ z).cell? ⟨B, o, none⟩ = wq.cell? ⟨B, o, none⟩ := fun wq j o z => World.cell?_setCell_other _ _ _ _ (fun e => by injection e with e1; omega)
    have hkN : ∀ (wq : World) (j o : Nat) (z : Value), (wq.setCell ⟨g, j, none⟩ z).cell? ⟨wr.heap.size, o, none⟩ = wq.cell? ⟨wr.heap.size, o, none⟩ := fun wq j o z => World.cell?_setCell_other _ _ _ _ (fun e => by injection e with e1; omega)
    by_cases h7 : x.op = 7
    · obtain ⟨a0, a1⟩ := hCk.1 h7
      obtain ⟨an, han⟩ : ∃ an : Nat, x.a = an := ⟨x.a.toNat, by omega⟩
      have s1 := (unhide HR3).starts (i := an) (by omega)
      have a2 : (an : Int) < 40 := by omega
      have HT := hide (unhide HSET 2 (st an) ⟨x.op, x.d, st an, x.b⟩ (by omega) (by unfold tgt; rw [if_pos h7, han, Int.toNat_natCast]) rfl)
      have HU := hide (unhide HSTP 2 (.int .i64 (st an)))
      obtain ⟨z, hz⟩ : ∃ z, z = st an := ⟨_, rfl⟩
      rw [← hz] at s1 HT HU
      rw [h7] at y0
      rw [han] at y2
      clear hz hCk HSET HSTP a0 a1 h7 han q0 q1 q3 y1 y3
      go_upto_region 6 with fail
      go_region_held3 (fun w' => w'.cell? ⟨B, 25, none⟩ = some (.slice (some ⟨g, 0, none⟩) C.length cap) ∧ w'.cell? ⟨wr.heap.size, 2, none⟩ = some (.int .i64 (an : Int)) ∧ w'.cell? ⟨B, 26 + an, none⟩ = some (.int .i64 (z : Int))) (first | (simp [*]; done) | assumption) (fail)
      obtain ⟨w5, hw5⟩ : ∃ w5, w5 = (w3.setCell ⟨g, k * 4 + 2, none⟩ (.int .i64 (z : Int))).drew := ⟨_, rfl⟩
      rw [← hw5] at HT HU ⊢
      have hg5 : g < w5.heap.size := by rw [hw5]; simp; exact hg3
      clear hw5 c25 s1
      go_wp2_with fail
      go_roundw
      case rel => exact ⟨k + 1, by omega, by go_num, unhide HT, unhide HU, hg5⟩
      case measure => simp [intOf]; omega
    by_cases h8 : x.op = 8
    · obtain ⟨a0, a1⟩ := hCk.2 h8
      obtain ⟨an, han⟩ : ∃ an : Nat, x.b = an := ⟨x.b.toNat, by omega⟩
      have s1 := (unhide HR3).starts (i := an) (by omega)
      have a2 : (an : Int) < 40 := by omega
      have HT := hide (unhide HSET 3 (st an) ⟨x.op, x.d, x.a, st an⟩ (by omega) (by unfold tgt; rw [if_neg (by omega), if_pos h8, han, Int.toNat_natCast]) rfl)
      have HU := hide (unhide HSTP 3 (.int .i64 (st an)))
      obtain ⟨z, hz⟩ : ∃ z, z = st an := ⟨_, rfl⟩
      rw [← hz] at s1 HT HU
      rw [h8] at y0
      rw [han] at y3
      clear hz hCk HSET HSTP a0 a1 h7 h8 han q0 q1 q2 y1 y2
      go_upto_region 8 with fail
      go_region_held3 (fun w' => w'.cell? ⟨B, 25, none⟩ = some (.slice (some ⟨g, 0, none⟩) C.length cap) ∧ w'.cell? ⟨wr.heap.size, 3, none⟩ = some (.int .i64 (an : Int)) ∧ w'.cell? ⟨B, 26 + an, none⟩ = some (.int .i64 (z : Int))) (first | (simp [*]; done) | assumption) (fail)
      obtain ⟨w5, hw5⟩ : ∃ w5, w5 = (w3.setCell ⟨g, k * 4 + 3, none⟩ (.int .i64 (z : Int))).drew := ⟨_, rfl⟩
      rw [← hw5] at HT HU ⊢
      have hg5 : g < w5.heap.size := by rw [hw5]; simp; exact hg3
      clear hw5 c25 s1
      go_wp2_with fail
      go_roundw
      case rel => exact ⟨k + 1, by omega, by go_num, unhide HT, unhide HU, hg5⟩
      case measure => simp [intOf]; omega
    · have g7 : (x.op == 7) = false := by rw [beq_eq_false_iff_ne]; exact h7
      have g8 : (x.op == 8) = false := by rw [beq_eq_false_iff_ne]; exact h8
      have HT : Hid (WrB w3 B hs ha K st (tgtTo st (k + 1) C) (.slice (some ⟨g, 0, none⟩) C.length cap)) := by
        have hT : tgt st x = x := by unfold tgt; rw [if_neg h7, if_neg h8]
        rw [unhide HSk, hT]
        have : inAt (tgtTo st k C) k = x := by rw [unhide HHR k, ← unhide HX]
        rw [← this, set_here]
        exact unhide HR3
      clear hCk HSET HSTP h7 h8 q0 q1 q2 q3 y1 y2 y3 c25 hgf
      go_wp2_with fail
      go_roundw
      case rel => exact ⟨k + 1, by omega, by go_num, unhide HT, unhide HS3, hg3⟩
      case measure => simp [intOf]; omega
end Go.Proofs.YtoepcplbpochpaaDoor
