/-
  Between a register and its home: (*lodge.writer).spare, goal, keep, fetch.
-/
import Derived.Test.YtoepcplbpochpabDoorPart7
import Derived.Deep.RegionHeld3
import Derived.Test.YtoepcplbpochpabDoorPart6
import Derived.Deep.QuietTactic
import Derived.BigQuiet
import Derived.Lib.Strings

namespace Go.Proofs.YtoepcplbpochpabDoor
open Go.RowKit

/-- The register of the machine that holds the program's r; what brings it there. -/
def fetR (hs : Nat → Bool) (ha : Nat → Nat) (K : Nat) (r n : Nat) : Int := if hs r = true then (K : Int) - 2 + n else ha r
def fetC (hs : Nat → Bool) (ha : Nat → Nat) (K : Nat) (r n : Nat) : List In4 := if hs r = true then [⟨15, (K : Int) - 2 + n, ha r, 0⟩] else []
/-- The register of the machine that is written where the program writes r; what brings it home. -/
def goalR (hs : Nat → Bool) (ha : Nat → Nat) (K : Nat) (r : Nat) : Int := if hs r = true then (K : Int) - 2 else ha r
def keepC (hs : Nat → Bool) (ha : Nat → Nat) (K : Nat) (r : Nat) : List In4 := if hs r = true then [⟨16, ha r, (K : Int) - 2, 0⟩] else []

def WPost (w : World) (B : Nat) (hs : Nat → Bool) (ha : Nat → Nat) (K : Nat) (st : Nat → Nat) (C : List In4) (sv : Value) (v : Value) (e : Ending) (w' : World) : Prop :=
  e = .returned v ∧ ∃ sv', WrB w' B hs ha K st C sv' ∧ WrStep B w sv w' sv'

set_option maxRecDepth 100000 in
set_option maxHeartbeats 4000000 in
theorem spare_any (B : Nat) (hs : Nat → Bool) (ha : Nat → Nat) (K : Nat) (st : Nat → Nat) (C : List In4) (sv : Value) (n : Nat) (w : World) (h : WrB w B hs ha K st C sv) (hK : 2 ≤ K) (hK' : K ≤ 16) (hn : n ≤ 1) :
    Calls Tryd.prog 86 #[.pointer (some ⟨B, 0, none⟩), .int .i64 n] w fun e w' => e = .returned (.int .i64 ((K : Int) - 2 + n)) ∧ w' = w := by
  have c := h.k
  clear h
  go_enter Tryd.func86, Tryd.ntmps86
  go_wp2
  go_ret
  exact ⟨ret_int (by go_num), rfl⟩

/-- A home that was boxed. -/
theorem box2 (w : World) (s : Bool) (a : Int) : ∃ w2, w2 = w.alloc (.cells #[.bool s, .int .i64 a] 83) ∧ w2.cell? ⟨w.heap.size, 0, none⟩ = some (.bool s) ∧ w2.cell? ⟨w.heap.size, 1, none⟩ = some (.int .i64 a) ∧ Hid (Below w.heap.size w w2) ∧ w.heap.size < w2.heap.size := by
  have q : ∀ i, (w.alloc (.cells #[.bool s, .int .i64 a] 83)).cell? ⟨w.heap.size, i, none⟩ = #[Value.bool s, .int .i64 a][i]? := fun i => World.cell?_alloc_at (hn := rfl) ..
  exact ⟨_, rfl, (q 0).trans rfl, (q 1).trans rfl, (Below.refl _ _).alloc (Nat.le_refl _) _, by simp⟩

set_option maxRecDepth 100000 in
set_option maxHeartbeats 4000000 in
theorem goal_any (B : Nat) (hs : Nat → Bool) (ha : Nat → Nat) (K : Nat) (st : Nat → Nat) (C : List In4) (sv : Value) (r : Nat) (w : World) (h : WrB w B hs ha K st C sv) (hK : 2 ≤ K) (hK' : K ≤ 16) (hr : r < 12) :
    Calls Tryd.prog 75 #[.pointer (some ⟨B, 0, none⟩), .int .i64 r] w fun e w' => e = .returned (.int .i64 (goalR hs ha K r)) ∧ Below w.heap.size w w' := by
  have c0 := h.hs hr
  have c1 := h.ha hr
  have hri : (r : Int) < 12 := by omega
  have HG := hide (show goalR hs ha K r = if hs r = true then (K : Int) - 2 else ha r from rfl)
  obtain ⟨s, hs'⟩ : ∃ s, s = hs r := ⟨_, rfl⟩
  rw [← hs'] at c0 HG
  clear hs'
  obtain ⟨w2, hw2, q0, q1, HB2, hz2⟩ := box2 w s (ha r)
  have HW := hide hw2
  have KS := hide (spare_any B hs ha K st C sv 0 w2 (h.below (unhide HB2)) hK hK' (by omega))
  clear hw2 h
  cases s
  · rw [if_neg (by decide)] at HG
    go_enter Tryd.func75, Tryd.ntmps75
    go_upto_region 2 with fail
    rw [← unhide HW]
    go_wp2_with fail
    go_ret
    exact ⟨ret_int (unhide HG).symm, unhide HB2⟩
  · rw [if_pos rfl] at HG
    go_enter Tryd.func75, Tryd.ntmps75
    go_upto_region 2 with fail
    rw [← unhide HW]
    go_wp2_with (go_at_call 86; refine (unhide KS).mono ?_; rintro e w3 ⟨rfl, rfl⟩)
    go_ret
    exact ⟨ret_int (by rw [unhide HG]; try simp), unhide HB2⟩

set_option maxRecDepth 100000 in
set_option maxHeartbeats 4000000 in
theorem keep_any (B : Nat) (hs : Nat → Bool) (ha : Nat → Nat) (K : Nat) (st : Nat → Nat) (C : List In4) (sv : Value) (r : Nat) (w : World) (h : WrB w B hs ha K st C sv) (hK : 2 ≤ K) (hK' : K ≤ 16) (hr : r < 12) (hl : C.length ≤ 1000) :
    Calls Tryd.prog 76 #[.pointer (some ⟨B, 0, none⟩), .int .i64 r] w (WPost w B hs ha K st (C ++ keepC hs ha K r) sv (.tuple #[])) := by
  have c0 := h.hs hr
  have c1 := h.ha hr
  have hri : (r : Int) < 12 := by omega
  have HG := hide (show keepC hs ha K r = if hs r = true then [⟨16, ha r, (K : Int) - 2, 0⟩] else [] from rfl)
  obtain ⟨s, hs'⟩ : ∃ s, s = hs r := ⟨_, rfl⟩
  rw [← hs'] at c0 HG
  clear hs'
  obtain ⟨w2, hw2, q0, q1, HB2, hz2⟩ := box2 w s (ha r)
  have HW := hide hw2
  have HI2 := hide (h.below (unhide HB2))
  have KS := hide (spare_any B hs ha K st C sv 0 w2 (unhide HI2) hK hK' (by omega))
  have KP := hide (put1_any B hs ha K st C sv ⟨16, ha r, (K : Int) - 2, 0⟩ w2 (unhide HI2) hl)
  simp only at KP
  clear hw2 h
  cases s
  · rw [if_neg (by decide)] at HG
    go_enter Tryd.func76, Tryd.ntmps76
    go_upto_region 1 with fail
    rw [← unhide HW]
    go_wp2_with fail
    go_returns
    exact ⟨rfl, sv, by rw [unhide HG, List.append_nil]; exact unhide HI2, .below (unhide HB2)⟩
  · rw [if_pos rfl] at HG
    go_enter Tryd.func76, Tryd.ntmps76
    go_upto_region 1 with fail
    rw [← unhide HW]
    have e0 : (K : Int) - 2 + ((0 : Nat) : Int) = (K : Int) - 2 := by omega
    rw [e0] at KS
    clear e0
    go_wp2_with (go_at_call 86; refine (unhide KS).mono ?_; rintro e w3 ⟨rfl, rfl⟩)
    refine (unhide KP).mono ?_
    rintro e w4 ⟨rfl, sv', h4, h5⟩
    have HP : Hid (WPost w B hs ha K st (C ++ keepC hs ha K r) sv (.tuple #[]) (.returned (.tuple #[])) w4) := ⟨rfl, sv', by rw [unhide HG]; exact h4, (WrStep.below (unhide HB2)).trans h5⟩
    clear h4 h5
    go_wp2_with fail
    go_returns
    exact unhide HP

set_option maxRecDepth 100000 in
set_option maxHeartbeats 4000000 in
theorem fetch_any (B : Nat) (hs : Nat → Bool) (ha : Nat → Nat) (K : Nat) (st : Nat → Nat) (C : List In4) (sv : Value) (r n : Nat) (w : World) (h : WrB w B hs ha K st C sv) (hK : 2 ≤ K) (hK' : K ≤ 16) (hr : r < 12) (hn : n ≤ 1) (hl : C.length ≤ 1000) :
    Calls Tryd.prog 78 #[.pointer (some ⟨B, 0, none⟩), .int .i64 r, .int .i64 n] w (WPost w B hs ha K st (C ++ fetC hs ha K r n) sv (.int .i64 (fetR hs ha K r n))) := by
  have c0 := h.hs hr
  have c1 := h.ha hr
  have hri : (r : Int) < 12 := by omega
  have HG := hide (show fetC hs ha K r n = if hs r = true then [⟨15, (K : Int) - 2 + n, ha r, 0⟩] else [] from rfl)
  have HR := hide (show fetR hs ha K r n = if hs r = true then (K : Int) - 2 + n else ha r from rfl)
  obtain ⟨s, hs'⟩ : ∃ s, s = hs r := ⟨_, rfl⟩
  rw [← hs'] at c0 HG HR
  clear hs'
  obtain ⟨w2, hw2, q0, q1, HB2, hz2⟩ := box2 w s (ha r)
  have HW := hide hw2
  have HI2 := hide (h.below (unhide HB2))
  have KS := hide (spare_any B hs ha K st C sv n w2 (unhide HI2) hK hK' hn)
  obtain ⟨y, hy⟩ : ∃ y, y = (K : Int) - 2 + n := ⟨_, rfl⟩
  have KP := hide (put1_any B hs ha K st C sv ⟨15, y, ha r, 0⟩ w2 (unhide HI2) hl)
  simp only at KP
  rw [← hy] at KS HG HR
  clear hw2 h hy
  cases s
  · rw [if_neg (by decide)] at HG HR
    go_enter Tryd.func78, Tryd.ntmps78
    go_upto_region 2 with fail
    rw [← unhide HW]
    go_wp2_with fail
    go_ret
    exact ⟨ret_int (unhide HR).symm, sv, by rw [unhide HG, List.append_nil]; exact unhide HI2, .below (unhide HB2)⟩
  · rw [if_pos rfl] at HG HR
    go_enter Tryd.func78, Tryd.ntmps78
    go_upto_region 2 with fail
    rw [← unhide HW]
    go_wp2_with (go_at_call 86; refine (unhide KS).mono ?_; rintro e w3 ⟨rfl, rfl⟩)
    refine (unhide KP).mono ?_
    rintro e w4 ⟨rfl, sv', h4, h5⟩
    have HP : Hid (WPost w B hs ha K st (C ++ fetC hs ha K r n) sv (.int .i64 (fetR hs ha K r n)) (.returned (.int .i64 y)) w4) := ⟨ret_int (unhide HR).symm, sv', by rw [unhide HG]; exact h4, (WrStep.below (unhide HB2)).trans h5⟩
    clear h4 h5
    go_wp2_with fail
    go_ret
    exact unhide HP
end Go.Proofs.YtoepcplbpochpabDoor

/-
  The args, and the targets: (*lodge.writer).loadParams, setTargets.
-/
namespace Go.Proofs.YtoepcplbpochpabDoor
open Go.RowKit

/-- What brings the first k args to their homes. -/
def loadC (hs : Nat → Bool) (ha : Nat → Nat) (s : Nat → Bool) : Nat → List In4
  | 0 => []
  | k + 1 => loadC hs ha s k ++ if (s k && !hs k) = true then [⟨15, ha k, k, 0⟩] else []
theorem loadC_len (hs : Nat → Bool) (ha : Nat → Nat) (s : Nat → Bool) : ∀ k, (loadC hs ha s k).length ≤ k
  | 0 => Nat.le_refl _
  | k + 1 => by
    have := loadC_len hs ha s k
    show (_ ++ ite _ _ _ : List In4).length ≤ k + 1
    rw [List.length_append]
    split <;> simp <;> omega

set_option maxRecDepth 100000 in
set_option maxHeartbeats 8000000 in
theorem loadParams_any (B : Nat) (hs : Nat → Bool) (ha : Nat → Nat) (K : Nat) (st : Nat → Nat) (C : List In4) (sv : Value) (P : Nat) (s : Nat → Bool) (w : World) (h : WrB w B hs ha K st C sv) (hP : P ≤ 12) (hl : C.length ≤ 900) :
    Calls Tryd.prog 53 #[.pointer (some ⟨B, 0, none⟩), .int .i64 P, .agg (rowA 12 (setV s))] w (WPost w B hs ha K st (C ++ loadC hs ha s P) sv (.tuple #[])) := by
  have KP := hide (fun w C sv (h : WrB w B hs ha K st C sv) x hl => put1_any B hs ha K st C sv x w h hl)
  have HLL := hide (loadC_len hs ha s)
  have HLS := hide (show ∀ k, loadC hs ha s (k + 1) = loadC hs ha s k ++ if (s k && !hs k) = true then [⟨15, ha k, k, 0⟩] else [] from fun _ => rfl)
  obtain ⟨w1, hw1, HC1, HL1, hz1⟩ := box_row w 77 12 (setV s)
  have HW := hide hw1
  have HB1 : Hid (WrB w1 B hs ha K st (C ++ loadC hs ha s 0) sv) := by rw [show loadC hs ha s 0 = [] from rfl, List.append_nil]; exact h.below (unhide HL1)
  have HS1 : Hid (WrStep B w sv w1 sv) := .below (unhide HL1)
  have HA1 : Hid (some w.heap.size ≠ sv.ownBlock) := h.apart (Nat.le_refl _)
  have hne : w.heap.size ≠ B := by have := h.lt; omega
  clear hw1 h HL1
  go_enter Tryd.func53, Tryd.ntmps53
  go_wp2_with fail
  rw [← unhide HW]
  go_wp2_with fail
  go_loopw [6] (fun i' wr => ∃ k : Nat, k ≤ P ∧ i' = .int .i64 k ∧ ∃ sv', Hid (WrB wr B hs ha K st (C ++ loadC hs ha s k) sv') ∧ Hid (WrStep B w sv wr sv') ∧ Hid (Rowd wr w.heap.size 77 12 (setV s)) ∧ Hid (some w.heap.size ≠ sv'.ownBlock)) (fun i' _ => P - (intOf i').toNat)
  case atStart => exact ⟨0, by omega, rfl, sv, unhide HB1, unhide HS1, unhide HC1, unhide HA1⟩
  case round =>
    clear HB1 HS1 HC1 HA1
    obtain ⟨k, hk, rfl, sv', HB, HS, HC, HA⟩ := hrel
    by_cases hlt : k < P
    case neg =>
      have hkP : k = P := by omega
      go_wp2_with fail
      go_returns
      exact ⟨rfl, sv', by rw [← hkP]; exact unhide HB, unhide HS⟩
    have hki : (k : Int) < 12 := by omega
    have c0 := (unhide HB).hs (r := k) (by omega)
    have c1 := (unhide HB).ha (r := k) (by omega)
    have s0 := (unhide HC).cell (show k < 12 by omega)
    unfold setV at s0
    have HE := hide (unhide HLS k)
    obtain ⟨a, hea⟩ : ∃ a, a = hs k := ⟨_, rfl⟩
    obtain ⟨b, heb⟩ : ∃ b, b = s k := ⟨_, rfl⟩
    rw [← hea] at c0 HE
    rw [← heb] at s0 HE
    clear hea heb
    obtain ⟨w3, hw3, e0, e1, HB3, hz3⟩ := box2 wr a (ha k)
    have HW3 := hide hw3
    have HW : Hid (WrB w3 B hs ha K st (C ++ loadC hs ha s k) sv') := (unhide HB).below (unhide HB3)
    have HS3 : Hid (WrStep B w sv w3 sv') := (unhide HS).trans (.below (unhide HB3))
    have HC3 := hide ((unhide HC).below (unhide HB3))
    have s3 : w3.cell? ⟨w.heap.size, k, none⟩ = some (.bool b) := ((unhide HB3).cell (p := ⟨w.heap.size, k, none⟩) (unhide HC).lt).trans s0
    clear hw3 HB HS HC HB3
    go_upto_region 5 with fail
    rw [← unhide HW3]
    clear c0 c1 s0 HW3
    rcases (show (b && !a) = true ∨ (b && !a) = false by cases b <;> cases a <;> simp) with hab | hab
    · have hb : b = true := by cases b <;> simp_all
      have ha0 : a = false := by cases a <;> simp_all
      subst hb ha0
      rw [if_pos (show (true && !false) = true from rfl)] at HE
      have KP' := hide (unhide KP w3 _ sv' (unhide HW) ⟨15, ha k, k, 0⟩ (by rw [List.length_append]; have := unhide HLL k; omega))
      simp only at KP'
      clear hab
      go_wp2_with fail
      refine (unhide KP').mono ?_
      rintro e w4 ⟨rfl, sv4, hw4, hs4⟩
      have HB4 : Hid (WrB w4 B hs ha K st (C ++ loadC hs ha s (k + 1)) sv4) := by rw [unhide HE, ← List.append_assoc]; exact hw4
      have HS4 : Hid (WrStep B w sv w4 sv4) := (unhide HS3).trans hs4
      have HC4 : Hid (Rowd w4 w.heap.size 77 12 (setV s)) := (unhide HC3).of_block (hs4.block (unhide HC3).lt hne (unhide HA))
      have HA4 : Hid (some w.heap.size ≠ sv4.ownBlock) := hs4.fresh _ (unhide HC3).lt (unhide HA)
      clear hw4 hs4 HW HS3 HC3 HA KP'
      go_wp2_with fail
      go_roundw
      case rel => exact ⟨k + 1, by omega, by go_num, sv4, unhide HB4, unhide HS4, unhide HC4, unhide HA4⟩
      case measure => simp [intOf]; omega
    · rw [hab, if_neg (by decide), List.append_nil] at HE
      have HB4 : Hid (WrB w3 B hs ha K st (C ++ loadC hs ha s (k + 1)) sv') := by rw [unhide HE]; exact unhide HW
      cases b
      · clear hab
        go_wp2_with fail
        go_roundw
        case rel => exact ⟨k + 1, by omega, by go_num, sv', unhide HB4, unhide HS3, unhide HC3, unhide HA⟩
        case measure => simp [intOf]; omega
      · have ha1 : a = true := by cases a <;> simp_all
        subst ha1
        clear hab
        go_wp2_with fail
        go_roundw
        case rel => exact ⟨k + 1, by omega, by go_num, sv', unhide HB4, unhide HS3, unhide HC3, unhide HA⟩
        case measure => simp [intOf]; omega

/-- An instruction with its target in the unit. -/
def tgt (st : Nat → Nat) (x : In4) : In4 := if x.op = 7 then ⟨x.op, x.d, st x.a.toNat, x.b⟩ else if x.op = 8 then ⟨x.op, x.d, x.a, st x.b.toNat⟩ else x
def tgtTo (st : Nat → Nat) : Nat → List In4 → List In4
  | 0, C => C
  | _ + 1, [] => []
  | k + 1, x :: C => tgt st x :: tgtTo st k C
theorem tgtTo_len (st : Nat → Nat) : ∀ k C, (tgtTo st k C).length = C.length
  | 0, _ => rfl
  | _ + 1, [] => rfl
  | k + 1, _ :: C => by show (tgtTo st k C).length + 1 = _; rw [tgtTo_len st k C]; rfl
theorem tgtTo_here (st : Nat → Nat) : ∀ k C, inAt (tgtTo st k C) k = inAt C k
  | 0, _ => rfl
  | _ + 1, [] => rfl
  | k + 1, _ :: C => tgtTo_here st k C
theorem tgtTo_step (st : Nat → Nat) : ∀ k C, k < C.length → tgtTo st (k + 1) C = (tgtTo st k C).set k (tgt st (inAt C k))
  | 0, [], h => by cases h
  | 0, _ :: _, _ => rfl
  | k + 1, [], h => by cases h
  | k + 1, x :: C, h => by
    show tgt st x :: tgtTo st (k + 1) C = tgt st x :: (tgtTo st k C).set k _
    rw [tgtTo_step st k C (by simpa using h)]; rfl
theorem tgtTo_all (st : Nat → Nat) : ∀ C, tgtTo st C.length C = C.map (tgt st)
  | [] => rfl
  | x :: C => by show tgt st x :: tgtTo st C.length C = _; rw [tgtTo_all st C]; rfl
theorem set_here : ∀ (C : List In4) (k : Nat), C.set k (inAt C k) = C
  | [], _ => rfl
  | _ :: _, 0 => rfl
  | x :: C, k + 1 => by show x :: C.set k (inAt C k) = _; rw [set_here C k]
/-- Writing one field of one instruction. -/
theorem insCells_set : ∀ (C : List In4) (i j : Nat) (v : Value) (x' : In4), j < 4 → i < C.length → x'.cells = (inAt C i).cells.set j v → (insCells C).set (i * 4 + j) v = insCells (C.set i x')
  | [], i, _, _, _, _, h, _ => by cases h
  | x :: C, 0, j, v, x', hj, _, he => by
    show (x.cells ++ insCells C).set (0 * 4 + j) v = x'.cells ++ insCells C
    rw [List.set_append_left _ _ (by show 0 * 4 + j < 4; omega), show 0 * 4 + j = j by omega, he]; rfl
  | x :: C, i + 1, j, v, x', hj, h, he => by
    show (x.cells ++ insCells C).set ((i + 1) * 4 + j) v = x.cells ++ insCells (C.set i x')
    rw [List.set_append_right _ _ (by show 4 ≤ (i + 1) * 4 + j; omega), show (i + 1) * 4 + j - x.cells.length = i * 4 + j by show (i + 1) * 4 + j - 4 = _; omega, insCells_set C i j v x' hj (by simpa using h) he]
theorem insCells_at : ∀ (C : List In4) (i j : Nat), i < C.length → j < 4 → (insCells C)[i * 4 + j]? = (inAt C i).cells[j]?
  | [], _, _, h, _ => by cases h
  | x :: C, 0, j, _, hj => by
    show (x.cells ++ insCells C)[0 * 4 + j]? = _
    rw [List.getElem?_append_left (by show 0 * 4 + j < 4; omega), show 0 * 4 + j = j by omega]; rfl
  | x :: C, i + 1, j, h, hj => by
    show (x.cells ++ insCells C)[(i + 1) * 4 + j]? = _
    rw [List.getElem?_append_right (by show 4 ≤ (i + 1) * 4 + j; omega), show (i + 1) * 4 + j - x.cells.length = i * 4 + j by show (i + 1) * 4 + j - 4 = _; omega, insCells_at C i j (by simpa using h) hj]; rfl
theorem own_set {w : World} {base g : Nat} {e : TypeId} {size n cap : Nat} {xs : List Value} (h : w.ownsRow base e size (.slice (some ⟨g, 0, none⟩) n cap) n xs) (j : Nat) (u : Value) : (w.setCell ⟨g, j, none⟩ u).ownsRow base e size (.slice (some ⟨g, 0, none⟩) n cap) n (xs.set j u) := by
  refine ⟨by rw [List.length_set]; exact h.1, .inr ?_⟩
  rcases h.2 with ⟨h1, _⟩ | ⟨g', cap', cur, h1, h2, h3, h4, h5, h6, h7⟩
  · cases h1
  · injection h1 with h1 h1' h1''
    injection h1 with h1
    injection h1 with h1
    subst h1 h1''
    refine ⟨g, cap, _, rfl, h2, heap_setCell_same w g j cur e u h3, h4, h5, by rw [Array.size_setIfInBounds]; exact h6, ?_⟩
    rw [Array.toList_setIfInBounds, ← h7, List.take_set]
/-- The code's slice. -/
theorem WrB.slice {w : World} {B : Nat} {hs : Nat → Bool} {ha : Nat → Nat} {K : Nat} {st : Nat → Nat} {C : List In4} {sv : Value} (h : WrB w B hs ha K st C sv) (hn : 1 ≤ C.length) : ∃ g cap, sv = .slice (some ⟨g, 0, none⟩) C.length cap ∧ B < g ∧ g < w.heap.size ∧ (∀ o, w.frozen? ⟨g, o, none⟩ = false) := by
  rcases h.own.2 with ⟨_, h0⟩ | ⟨g, cap, cur, h1, h2, h3, _⟩
  · omega
  · exact ⟨g, cap, h1, by omega, (Array.getElem?_eq_some_iff.1 h3).1, fun o => by simp [World.frozen?, h3]⟩
theorem own_ins {w : World} {base g n cap : Nat} {C : List In4} (h : w.ownsRow base 31 4 (.slice (some ⟨g, 0, none⟩) n cap) n (insCells C)) (hn : n = C.length) {i : Nat} (hi : i < C.length) : At4 w g (i * 4) (inAt C i) := by
  have key : ∀ j, j < 4 → w.cell? ⟨g, i * 4 + j, none⟩ = (inAt C i).cells[j]? := fun j hj => by
    have hc := World.ownsRow.cellAt h (i * 4 + j) (by omega)
    rw [hc]; exact insCells_at C i j hi hj
  exact ⟨key 0 (by omega), key 1 (by omega), key 2 (by omega), key 3 (by omega)⟩

theorem WrB.starts {w : World} {B : Nat} {hs : Nat → Bool} {ha : Nat → Nat} {K : Nat} {st : Nat → Nat} {C : List In4} {sv : Value} (h : WrB w B hs ha K st C sv) {i : Nat} (hi : i < 40) : w.cell? ⟨B, 26 + i, none⟩ = some (.int .i64 (st i)) := by
  rw [h.row.cell (by omega)]; unfold wrV; rw [if_neg (by omega), if_neg (by omega), if_neg (by omega), show 26 + i - 26 = i by omega]

set_option maxRecDepth 100000 in
set_option maxHeartbeats 8000000 in
theorem setTargets_any (B : Nat) (hs : Nat → Bool) (ha : Nat → Nat) (K : Nat) (st : Nat → Nat) (C : List In4) (sv : Value) (w : World) (h : WrB w B hs ha K st C sv) (hn : 1 ≤ C.length) (hl : C.length ≤ 900)
    (hC : ∀ i, i < C.length → ((inAt C i).op = 7 → 0 ≤ (inAt C i).a ∧ (inAt C i).a < 40) ∧ ((inAt C i).op = 8 → 0 ≤ (inAt C i).b ∧ (inAt C i).b < 40)) :
    Calls Tryd.prog 55 #[.pointer (some ⟨B, 0, none⟩)] w (WPost w B hs ha K st (C.map (tgt st)) sv (.tuple #[])) := by
  obtain ⟨g, cap, rfl, hBg, hgw, hgf⟩ := h.slice hn
  have HW0 := hide h
  have HC := hide hC
  have HST := hide (fun k hk => tgtTo_step st k C hk)
  have HLN := hide (fun k => tgtTo_len st k C)
  have HHR := hide (fun k => tgtTo_here st k C)
  have HAL := hide (tgtTo_all st C)
  clear h hC hgf
  go_enter Tryd.func55, Tryd.ntmps55
  go_wp2_with fail
  go_loopw [2] (fun i' wr => ∃ k : Nat, k ≤ C.length ∧ i' = .int .i64 k ∧ Hid (WrB wr B hs ha K st (tgtTo st k C) (.slice (some ⟨g, 0, none⟩) C.length cap)) ∧ Hid (WrStep B w (.slice (some ⟨g, 0, none⟩) C.length cap) wr (.slice (some ⟨g, 0, none⟩) C.length cap)) ∧ g < wr.heap.size) (fun i' _ => C.length - (intOf i').toNat)
  case atStart => exact ⟨0, by omega, rfl, unhide HW0, WrStep.refl _ _ _, hgw⟩
  case round =>
    obtain ⟨k, hk, rfl, HB, HS, hg⟩ := hrel
    have c25 := (unhide HB).sv
    by_cases hlt : k < C.length
    case neg =>
      have hkC : k = C.length := by omega
      go_wp2_with fail
      go_returns
      exact ⟨rfl, _, by have := unhide HB; rw [hkC, unhide HAL] at this; exact this, unhide HS⟩
    have hki : (k : Int) < C.length := by omega
    have hown := (unhide HB).own
    have hlen : C.length = (tgtTo st k C).length := (unhide HLN k).symm
    have hown' : wr.ownsRow (B + 1) 31 4 (.slice (some ⟨g, 0, none⟩) C.length cap) C.length (insCells (tgtTo st k C)) := by
      have := hown; rw [← hlen] at this; exact this
    have hat := own_ins hown' hlen (i := k) (by rw [← hlen]; exact hlt)
    rw [unhide HHR k] at hat
    have HO := hide hown'
    have HLE := hide hlen
    clear hown hown' hlen
    obtain ⟨x, hx⟩ : ∃ x, x = inAt C k := ⟨_, rfl⟩
    rw [← hx] at hat
    have hCk := unhide HC k hlt
    have HSk := hide (unhide HST k hlt)
    rw [← hx] at hCk HSk
    have HX := hide hx
    clear hx
    obtain ⟨q0, q1, q2, q3⟩ := hat
    obtain ⟨w3, hw3, hy, HB3, hz3⟩ := box4 wr x
    have HW3 := hide hw3
    have HR3 := hide ((unhide HB).below (unhide HB3))
    have HS3 : Hid (WrStep B w (.slice (some ⟨g, 0, none⟩) C.length cap) w3 (.slice (some ⟨g, 0, none⟩) C.length cap)) := (unhide HS).trans (.below (unhide HB3))
    have HO3 : Hid (w3.ownsRow (B + 1) 31 4 (.slice (some ⟨g, 0, none⟩) C.length cap) C.length (insCells (tgtTo st k C))) := own_keep (unhide HO) (Keep.of_below (unhide HB3) (fun _ => False)) (fun _ _ h => h)
    have hg3 : g < w3.heap.size := by omega
    obtain ⟨y0, y1, y2, y3⟩ := hy
    go_upto_region 4 with fail
    rw [← unhide HW3]
    clear q0 q1 q2 q3 c25 hw3 HW3 HB3 HO HB HS
    have c25 := (unhide HR3).sv
    have hBw := (unhide HR3).lt
    have hgf : ∀ o, w3.frozen? ⟨g, o, none⟩ = false := by
      rcases (unhide HO3).2 with ⟨h1, _⟩ | ⟨g', cap', cur, h1, h2, h3, _⟩
      · cases h1
      · injection h1 with h1
        injection h1 with h1
        injection h1 with h1
        subst h1
        intro o
        simp [World.frozen?, h3]
    have hq := own_ins (unhide HO3) (unhide HLE) (i := k) (by rw [← unhide HLE]; exact hlt)
    rw [unhide HHR k, ← unhide HX] at hq
    obtain ⟨q0, q1, q2, q3⟩ := hq
    have hNg : wr.heap.size ≠ g := by omega
    have hBn : B ≠ g := by omega
    -- what a store of one field leaves behind
    have HSET : Hid (∀ (j : Nat) (v : Int) (x' : In4), j < 4 → x' = tgt st x → x'.cells = x.cells.set j (.int .i64 v) → WrB ((w3.setCell ⟨g, k * 4 + j, none⟩ (.int .i64 v)).drew) B hs ha K st (tgtTo st (k + 1) C) (.slice (some ⟨g, 0, none⟩) C.length cap)) := fun j v x' hj hx' hc => by
      have hrow := ((unhide HR3).row.of_block (heap_setCell_other w3 ⟨g, k * 4 + j, none⟩ B (.int .i64 v) hBn)).drew
      refine ⟨hrow, ?_⟩
      have ho := own_set (unhide HO3) (k * 4 + j) (.int .i64 v)
      rw [insCells_set (tgtTo st k C) k j _ x' hj (by rw [← unhide HLE]; exact hlt) (by rw [unhide HHR k, ← unhide HX]; exact hc), hx', ← unhide HSk] at ho
      rw [unhide HLN (k + 1)]
      exact own_keep ho (Keep.refl (fun _ => False) _).drew (fun _ _ h => h)
    have HSTP : Hid (∀ (j : Nat) (v : Value), WrStep B w (.slice (some ⟨g, 0, none⟩) C.length cap) ((w3.setCell ⟨g, k * 4 + j, none⟩ v).drew) (.slice (some ⟨g, 0, none⟩) C.length cap)) := fun j v =>
      (unhide HS3).trans ⟨((Keep.refl (fun k => k = B ∨ some k = (Value.slice (some ⟨g, 0, none⟩) C.length cap).ownBlock) w3).setCell (p := ⟨g, k * 4 + j, none⟩) (.inr rfl) v).drew, fun _ _ h => h⟩
    have hkB : ∀ (wq : World) (j o : Nat) (z : Value), (wq.setCell ⟨g, j, none⟩ z).cell? ⟨B, o, none⟩ = wq.cell? ⟨B, o, none⟩ := fun wq j o z => World.cell?_setCell_other _ _ _ _ (fun e => by injection e with e1; omega)
    have hkN : ∀ (wq : World) (j o : Nat) (z : Value), (wq.setCell ⟨g, j, none⟩ z).cell? ⟨wr.heap.size, o, none⟩ = wq.cell? ⟨wr.heap.size, o, none⟩ := fun wq j o z => World.cell?_setCell_other _ _ _ _ (fun e => by injection e with e1; omega)
    by_cases h7 : x.op = 7
    · obtain ⟨a0, a1⟩ := hCk.1 h7
      obtain ⟨an, han⟩ : ∃ an : Nat, x.a = an := ⟨x.a.toNat, by omega⟩
      have s1 := (unhide HR3).starts (i := an) (by omega)
      have a2 : (an : Int) < 40 := by omega
      have HT := hide (unhide HSET 2 (st an) ⟨x.op, x.d, st an, x.b⟩ (by omega) (by unfold tgt; rw [if_pos h7, han, Int.toNat_natCast]) rfl)
      have HU := hide (unhide HSTP 2 (.int .i64 (st an)))
      obtain ⟨z, hz⟩ : ∃ z, z = st an := ⟨_, rfl⟩
      rw [← hz] at s1 HT HU
      rw [h7] at y0
      rw [han] at y2
      clear hz hCk HSET HSTP a0 a1 h7 han q0 q1 q3 y1 y3
      go_upto_region 6 with fail
      go_region_held3 (fun w' => w'.cell? ⟨B, 25, none⟩ = some (.slice (some ⟨g, 0, none⟩) C.length cap) ∧ w'.cell? ⟨wr.heap.size, 2, none⟩ = some (.int .i64 (an : Int)) ∧ w'.cell? ⟨B, 26 + an, none⟩ = some (.int .i64 (z : Int))) (first | (simp [*]; done) | assumption) (fail)
      obtain ⟨w5, hw5⟩ : ∃ w5, w5 = (w3.setCell ⟨g, k * 4 + 2, none⟩ (.int .i64 (z : Int))).drew := ⟨_, rfl⟩
      rw [← hw5] at HT HU ⊢
      have hg5 : g < w5.heap.size := by rw [hw5]; simp; exact hg3
      clear hw5 c25 s1
      go_wp2_with fail
      go_roundw
      case rel => exact ⟨k + 1, by omega, by go_num, unhide HT, unhide HU, hg5⟩
      case measure => simp [intOf]; omega
    by_cases h8 : x.op = 8
    · obtain ⟨a0, a1⟩ := hCk.2 h8
      obtain ⟨an, han⟩ : ∃ an : Nat, x.b = an := ⟨x.b.toNat, by omega⟩
      have s1 := (unhide HR3).starts (i := an) (by omega)
      have a2 : (an : Int) < 40 := by omega
      have HT := hide (unhide HSET 3 (st an) ⟨x.op, x.d, x.a, st an⟩ (by omega) (by unfold tgt; rw [if_neg (by omega), if_pos h8, han, Int.toNat_natCast]) rfl)
      have HU := hide (unhide HSTP 3 (.int .i64 (st an)))
      obtain ⟨z, hz⟩ : ∃ z, z = st an := ⟨_, rfl⟩
      rw [← hz] at s1 HT HU
      rw [h8] at y0
      rw [han] at y3
      clear hz hCk HSET HSTP a0 a1 h7 h8 han q0 q1 q2 y1 y2
      go_upto_region 8 with fail
      go_region_held3 (fun w' => w'.cell? ⟨B, 25, none⟩ = some (.slice (some ⟨g, 0, none⟩) C.length cap) ∧ w'.cell? ⟨wr.heap.size, 3, none⟩ = some (.int .i64 (an : Int)) ∧ w'.cell? ⟨B, 26 + an, none⟩ = some (.int .i64 (z : Int))) (first | (simp [*]; done) | assumption) (fail)
      obtain ⟨w5, hw5⟩ : ∃ w5, w5 = (w3.setCell ⟨g, k * 4 + 3, none⟩ (.int .i64 (z : Int))).drew := ⟨_, rfl⟩
      rw [← hw5] at HT HU ⊢
      have hg5 : g < w5.heap.size := by rw [hw5]; simp; exact hg3
      clear hw5 c25 s1
      go_wp2_with fail
      go_roundw
      case rel => exact ⟨k + 1, by omega, by go_num, unhide HT, unhide HU, hg5⟩
      case measure => simp [intOf]; omega
    · have g7 : (x.op == 7) = false := by rw [beq_eq_false_iff_ne]; exact h7
      have g8 : (x.op == 8) = false := by rw [beq_eq_false_iff_ne]; exact h8
      have HT : Hid (WrB w3 B hs ha K st (tgtTo st (k + 1) C) (.slice (some ⟨g, 0, none⟩) C.length cap)) := by
        have hT : tgt st x = x := by unfold tgt; rw [if_neg h7, if_neg h8]
        rw [unhide HSk, hT]
        have : inAt (tgtTo st k C) k = x := by rw [unhide HHR k, ← unhide HX]
        rw [← this, set_here]
        exact unhide HR3
      clear hCk HSET HSTP h7 h8 q0 q1 q2 q3 y1 y2 y3 c25 hgf
      go_wp2_with fail
      go_roundw
      case rel => exact ⟨k + 1, by omega, by go_num, unhide HT, unhide HS3, hg3⟩
      case measure => simp [intOf]; omega
end Go.Proofs.YtoepcplbpochpabDoor

/-
  What leb.Get and lodgeref.Get answer, at every string and place.
-/
namespace Go.Proofs.YtoepcplbpochpabDoor
open Go.RowKit

theorem ret3 {a a' b b' c : Int} (h : a = a') (h' : b = b') : Ending.returned (.tuple #[.int .i64 a, .int .i64 b, .int .i64 c]) = Ending.returned (.tuple #[.int .i64 a', .int .i64 b', .int .i64 c]) := by rw [h, h']

set_option maxRecDepth 100000 in
set_option maxHeartbeats 1000000 in
theorem get_any (s : ByteArray) (i : Int) (w : World) (hs : s.size ≤ maxLen) (hi : i ≤ 9223372036854775807) :
    Calls Tryd.prog 46 #[.string s, .int .i64 i] w fun e w' => e = .returned (getR s i) ∧ w' = w := by
  unfold maxLen at hs
  by_cases h0 : i < 0
  · rw [getR_neg h0]
    go_enter Tryd.func46, Tryd.ntmps46
    go_wp2
    go_ret3
    exact ⟨rfl, rfl⟩
  obtain ⟨k, rfl⟩ := Int.eq_ofNat_of_zero_le (by omega : 0 ≤ i)
  by_cases hk : k < s.size
  case neg =>
    rw [getR_none (get_out (by omega))]
    go_enter Tryd.func46, Tryd.ntmps46
    go_wp2
    refine wp_loop_rounds 1 ?_; rw [rounds_succ]
    go_wp2
    go_ret3
    exact ⟨rfl, rfl⟩
  have ba : ((s[k]).toNat : Int) < 256 := by have := (s[k]).toNat_lt; omega
  by_cases a : ((s[k]).toNat : Int) < 128
  case pos =>
    rw [getR_some (get_a hk a)]
    go_enter Tryd.func46, Tryd.ntmps46
    go_wp2
    refine wp_loop_rounds 1 ?_; rw [rounds_succ]
    go_wp2
    all_goals go_ret3
    all_goals exact ⟨ret3 (by omega) (by omega), rfl⟩
  by_cases hk1 : k + 1 < s.size
  case neg =>
    rw [getR_none (get_a_end hk a (by omega))]
    go_enter Tryd.func46, Tryd.ntmps46
    go_wp2
    refine wp_loop_rounds 2 ?_; rw [rounds_succ]
    go_wp2
    rw [rounds_succ]
    go_wp2
    all_goals go_ret3
    all_goals exact ⟨rfl, rfl⟩
  have bb : ((s[k + 1]).toNat : Int) < 256 := by have := (s[k + 1]).toNat_lt; omega
  by_cases b : ((s[k + 1]).toNat : Int) < 128
  case pos =>
    by_cases b' : ((s[k + 1]).toNat : Int) = 0
    · rw [getR_none (get_b_zero hk1 a b')]
      go_enter Tryd.func46, Tryd.ntmps46
      go_wp2
      refine wp_loop_rounds 2 ?_; rw [rounds_succ]
      go_wp2
      rw [rounds_succ]
      go_wp2
      all_goals go_ret3
      all_goals exact ⟨rfl, rfl⟩
    · rw [getR_some (get_b hk1 a b b')]
      go_enter Tryd.func46, Tryd.ntmps46
      go_wp2
      refine wp_loop_rounds 2 ?_; rw [rounds_succ]
      go_wp2
      rw [rounds_succ]
      go_wp2
      all_goals go_ret3
      all_goals exact ⟨ret3 (by omega) (by omega), rfl⟩
  by_cases hk2 : k + 1 + 1 < s.size
  case neg =>
    rw [getR_none (get_b_end hk1 a b (by omega))]
    go_enter Tryd.func46, Tryd.ntmps46
    go_wp2
    refine wp_loop_rounds 3 ?_; rw [rounds_succ]
    go_wp2
    rw [rounds_succ]
    go_wp2
    rw [rounds_succ]
    go_wp2
    all_goals go_ret3
    all_goals exact ⟨rfl, rfl⟩
  have bc : ((s[k + 1 + 1]).toNat : Int) < 256 := by have := (s[k + 1 + 1]).toNat_lt; omega
  by_cases c : ((s[k + 1 + 1]).toNat : Int) < 128
  case neg =>
    rw [getR_none (get_c_no hk2 a b c)]
    go_enter Tryd.func46, Tryd.ntmps46
    go_wp2
    refine wp_loop_rounds 4 ?_; rw [rounds_succ]
    go_wp2
    rw [rounds_succ]
    go_wp2
    rw [rounds_succ]
    go_wp2
    rw [rounds_succ]
    go_wp2
    all_goals go_ret3
    all_goals exact ⟨rfl, rfl⟩
  by_cases c' : ((s[k + 1 + 1]).toNat : Int) = 0
  · rw [getR_none (get_c_zero hk2 a b c')]
    go_enter Tryd.func46, Tryd.ntmps46
    go_wp2
    refine wp_loop_rounds 3 ?_; rw [rounds_succ]
    go_wp2
    rw [rounds_succ]
    go_wp2
    rw [rounds_succ]
    go_wp2
    all_goals go_ret3
    all_goals exact ⟨rfl, rfl⟩
  · rw [getR_some (get_c hk2 a b c c')]
    go_enter Tryd.func46, Tryd.ntmps46
    go_wp2
    refine wp_loop_rounds 3 ?_; rw [rounds_succ]
    go_wp2
    rw [rounds_succ]
    go_wp2
    rw [rounds_succ]
    go_wp2
    all_goals go_ret3
    all_goals exact ⟨ret3 (by omega) (by omega), rfl⟩
end Go.Proofs.YtoepcplbpochpabDoor

/-
  What leb.isTable answers, of every list of ranges.
-/
namespace Go.Proofs.YtoepcplbpochpabDoor
open Go.RowKit

/-- The i-th range of a list. -/
def rg (R : List Rg) (i : Nat) : Rg := R.getD i ⟨0, 0, 0, 0, 0⟩
/-- The five cells of a range lie at an address. -/
def AtR5 (w : World) (b o : Nat) (r : Rg) : Prop :=
  w.cell? ⟨b, o, none⟩ = some (.int .i64 r.v) ∧ w.cell? ⟨b, o + 1, none⟩ = some (.int .i64 r.f) ∧ w.cell? ⟨b, o + 2, none⟩ = some (.int .i64 r.t) ∧ w.cell? ⟨b, o + 3, none⟩ = some (.int .i64 r.k) ∧ w.cell? ⟨b, o + 4, none⟩ = some (.int .i64 r.a)
/-- A list of ranges lies at an address. -/
def Lie (w : World) (b off : Nat) (R : List Rg) : Prop := ∀ i, i < R.length → AtR5 w b (off + i * 5) (rg R i)

theorem AtR5.below {w w' : World} {B b o : Nat} {r : Rg} (h : AtR5 w b o r) (hb : Below B w w') (hB : b < B) : AtR5 w' b o r :=
  ⟨(hb.cell hB).trans h.1, (hb.cell hB).trans h.2.1, (hb.cell hB).trans h.2.2.1, (hb.cell hB).trans h.2.2.2.1, (hb.cell hB).trans h.2.2.2.2⟩
theorem Lie.below {w w' : World} {B b off : Nat} {R : List Rg} (h : Lie w b off R) (hb : Below B w w') (hB : b < B) : Lie w' b off R :=
  fun i hi => (h i hi).below hb hB

/-- Is the list a table as far as its first k ranges? -/
def tabTo (R : List Rg) (k : Nat) : Bool := (List.range k).all fun i => isRg (rg R i) && (decide (i = 0) || follows (rg R (i - 1)) (rg R i))
def isTab (R : List Rg) : Bool := decide (R.length ≤ 200) && tabTo R R.length

theorem tabTo_succ (R : List Rg) (k : Nat) : tabTo R (k + 1) = (tabTo R k && (isRg (rg R k) && (decide (k = 0) || follows (rg R (k - 1)) (rg R k)))) := by
  unfold tabTo; rw [List.range_succ, List.all_append]; simp
theorem tabTo_mono (R : List Rg) {k n : Nat} (h : k ≤ n) (hn : tabTo R n = true) : tabTo R k = true := by
  unfold tabTo at *; rw [List.all_eq_true] at *; intro i hi; rw [List.mem_range] at hi; exact hn i (by rw [List.mem_range]; omega)

set_option maxRecDepth 100000 in
set_option maxHeartbeats 1000000 in
theorem isTable_some (R : List Rg) (b off cap : Nat) (w : World) (hL : Lie w b off R) (hb : b < w.heap.size) (hlen : R.length ≤ 9223372036854775807) :
    Calls Tryd.prog 48 #[.slice (some ⟨b, off, none⟩) R.length cap] w fun e w' => e = .returned (.bool (isTab R)) ∧ Below w.heap.size w w' := by
  by_cases h200 : R.length ≤ 200
  case neg =>
    have e : isTab R = false := by simp [isTab, h200]
    rw [e]
    go_enter Tryd.func48, Tryd.ntmps48
    go_wp2
    go_ret
    exact ⟨rfl, Below.refl _ _⟩
  have e : isTab R = tabTo R R.length := by simp [isTab, h200]
  rw [e]
  clear e
  go_enter Tryd.func48, Tryd.ntmps48
  go_wp2
  go_loopw [3] (fun i wr => ∃ k : Nat, k ≤ R.length ∧ i = .int .i64 k ∧ tabTo R k = true ∧ Below w.heap.size w wr) (fun i _ => R.length - (intOf i).toNat)
  case atStart => exact ⟨0, Nat.zero_le _, rfl, rfl, Below.refl _ _⟩
  case round =>
    obtain ⟨k, hk, rfl, htab, hbel⟩ := hrel
    have HT := hide htab
    clear htab
    by_cases hlt : k < R.length
    · have C1 := hide (fun w => isRange_any (rg R k) w)
      have hc := hide ((hL k hlt).below hbel hb)
      cases hr : isRg (rg R k)
      · have hf : tabTo R R.length = false := by
          cases h : tabTo R R.length
          · rfl
          · have := tabTo_mono R (show k + 1 ≤ R.length by omega) h
            rw [tabTo_succ, hr] at this; simp at this
        have HF := hide hf
        rw [hr] at C1
        obtain ⟨c0, c1, c2, c3, c4⟩ := unhide hc
        clear hr hf hc
        go_wp2_with fail
        refine (unhide C1 _).mono ?_
        rintro e w1 ⟨rfl, hb1⟩
        go_wp2
        go_ret
        exact ⟨ret_bool (unhide HF).symm, hbel.trans (hb1.mono hbel.size)⟩
      · rw [hr] at C1
        have HR := hide hr
        clear hr
        obtain ⟨c0, c1, c2, c3, c4⟩ := unhide hc
        clear hc
        by_cases h0 : 0 < k
        case neg =>
          have hn : tabTo R (k + 1) = true := by rw [tabTo_succ, unhide HT, unhide HR]; simp; omega
          have HN := hide hn
          have hg : decide ((0 : Int) < (k : Int)) = false := by simp; omega
          clear hn
          go_wp2_with fail
          refine (unhide C1 _).mono ?_
          rintro e w1 ⟨rfl, hb1⟩
          go_wp2_with fail
          go_quiet (fail)
          go_wp2
          go_roundw
          case rel => exact ⟨k + 1, by omega, by go_num, unhide HN, below_drewN (hbel.trans (hb1.mono hbel.size)) _⟩
          case measure => simp [intOf]; omega
        have C2 := hide (fun w => mayFollow_any (rg R (k - 1)) (rg R k) w)
        cases hf : follows (rg R (k - 1)) (rg R k)
        · rw [hf] at C2
          have hn : tabTo R R.length = false := by
            cases h : tabTo R R.length
            · rfl
            · have := tabTo_mono R (show k + 1 ≤ R.length by omega) h
              rw [tabTo_succ, hf] at this; simp at this; omega
          have HN := hide hn
          clear hn hf
          go_wp2_with fail
          refine (unhide C1 _).mono ?_
          rintro e w1 ⟨rfl, hb1⟩
          have hb2 := hbel.trans (hb1.mono hbel.size)
          obtain ⟨d0, d1, d2, d3, d4⟩ := (hL k hlt).below hb2 hb
          obtain ⟨p0, p1, p2, p3, p4⟩ := (hL (k - 1) (by omega)).below hb2 hb
          go_wp2_with fail
          have i1 : (0 : Int) ≤ (k : Int) - 1 := by omega
          have i2 : (k : Int) - 1 < (R.length : Int) := by omega
          have i3 : (k : Int) < (R.length : Int) := by omega
          have i4 : decide ((0 : Int) < (k : Int)) = true := by simp; omega
          have i6 : (1 : Int) ≤ (k : Int) := by omega
          have i7 : 1 ≤ k := by omega
          have i5 : IntKind.i64.wrap ((k : Int) - 1) = (k : Int) - 1 := by rw [IntKind.wrap_i64]; omega
          go_region_held3 (fun w' => (w'.cell? ⟨b, off + k * 5, none⟩ = some (.int .i64 (rg R k).v) ∧ w'.cell? ⟨b, off + k * 5 + 1, none⟩ = some (.int .i64 (rg R k).f) ∧ w'.cell? ⟨b, off + k * 5 + 2, none⟩ = some (.int .i64 (rg R k).t) ∧ w'.cell? ⟨b, off + k * 5 + 3, none⟩ = some (.int .i64 (rg R k).k) ∧ w'.cell? ⟨b, off + k * 5 + 4, none⟩ = some (.int .i64 (rg R k).a)) ∧
            w'.cell? ⟨b, off + (k - 1) * 5, none⟩ = some (.int .i64 (rg R (k - 1)).v) ∧ w'.cell? ⟨b, off + (k - 1) * 5 + 1, none⟩ = some (.int .i64 (rg R (k - 1)).f) ∧ w'.cell? ⟨b, off + (k - 1) * 5 + 2, none⟩ = some (.int .i64 (rg R (k - 1)).t) ∧ w'.cell? ⟨b, off + (k - 1) * 5 + 3, none⟩ = some (.int .i64 (rg R (k - 1)).k) ∧ w'.cell? ⟨b, off + (k - 1) * 5 + 4, none⟩ = some (.int .i64 (rg R (k - 1)).a)) (simp [*])
            (first | (go_at_call 67; refine (unhide C2 _).mono ?_; rintro e w2 ⟨rfl, hb3⟩; have hb4 := (hb2.drew).trans (hb3.mono (by simpa using hb2.size)); obtain ⟨q0, q1, q2, q3, q4⟩ := (hL k hlt).below hb4 hb; obtain ⟨s0, s1, s2, s3, s4⟩ := (hL (k - 1) (by omega)).below hb4 hb))
          go_wp2
          go_ret
          exact ⟨ret_bool (unhide HN).symm, by assumption⟩
        · rw [hf] at C2
          have hn : tabTo R (k + 1) = true := by rw [tabTo_succ, unhide HT, unhide HR, hf]; simp
          have HN := hide hn
          clear hn hf
          go_wp2_with fail
          refine (unhide C1 _).mono ?_
          rintro e w1 ⟨rfl, hb1⟩
          have hb2 := hbel.trans (hb1.mono hbel.size)
          obtain ⟨d0, d1, d2, d3, d4⟩ := (hL k hlt).below hb2 hb
          obtain ⟨p0, p1, p2, p3, p4⟩ := (hL (k - 1) (by omega)).below hb2 hb
          go_wp2_with fail
          have i1 : (0 : Int) ≤ (k : Int) - 1 := by omega
          have i2 : (k : Int) - 1 < (R.length : Int) := by omega
          have i3 : (k : Int) < (R.length : Int) := by omega
          have i4 : decide ((0 : Int) < (k : Int)) = true := by simp; omega
          have i6 : (1 : Int) ≤ (k : Int) := by omega
          have i7 : 1 ≤ k := by omega
          have i5 : IntKind.i64.wrap ((k : Int) - 1) = (k : Int) - 1 := by rw [IntKind.wrap_i64]; omega
          go_region_held3 (fun w' => (w'.cell? ⟨b, off + k * 5, none⟩ = some (.int .i64 (rg R k).v) ∧ w'.cell? ⟨b, off + k * 5 + 1, none⟩ = some (.int .i64 (rg R k).f) ∧ w'.cell? ⟨b, off + k * 5 + 2, none⟩ = some (.int .i64 (rg R k).t) ∧ w'.cell? ⟨b, off + k * 5 + 3, none⟩ = some (.int .i64 (rg R k).k) ∧ w'.cell? ⟨b, off + k * 5 + 4, none⟩ = some (.int .i64 (rg R k).a)) ∧
            w'.cell? ⟨b, off + (k - 1) * 5, none⟩ = some (.int .i64 (rg R (k - 1)).v) ∧ w'.cell? ⟨b, off + (k - 1) * 5 + 1, none⟩ = some (.int .i64 (rg R (k - 1)).f) ∧ w'.cell? ⟨b, off + (k - 1) * 5 + 2, none⟩ = some (.int .i64 (rg R (k - 1)).t) ∧ w'.cell? ⟨b, off + (k - 1) * 5 + 3, none⟩ = some (.int .i64 (rg R (k - 1)).k) ∧ w'.cell? ⟨b, off + (k - 1) * 5 + 4, none⟩ = some (.int .i64 (rg R (k - 1)).a)) (simp [*])
            (first | (go_at_call 67; refine (unhide C2 _).mono ?_; rintro e w2 ⟨rfl, hb3⟩; have hb4 := (hb2.drew).trans (hb3.mono (by simpa using hb2.size)); obtain ⟨q0, q1, q2, q3, q4⟩ := (hL k hlt).below hb4 hb; obtain ⟨s0, s1, s2, s3, s4⟩ := (hL (k - 1) (by omega)).below hb4 hb))
          go_wp2
          go_roundw
          case rel => exact ⟨k + 1, by omega, by go_num, unhide HN, by assumption⟩
          case measure => simp [intOf]; omega
    · have : k = R.length := by omega
      subst this
      go_wp2
      go_ret
      exact ⟨ret_bool (unhide HT).symm, hbel⟩

theorem isTable_nil (ao : Option Addr) (cap : Nat) (w : World) :
    Calls Tryd.prog 48 #[.slice ao 0 cap] w fun e w' => e = .returned (.bool (isTab [])) ∧ Below w.heap.size w w' := by
  go_enter Tryd.func48, Tryd.ntmps48
  go_wp2
  refine wp_loop_rounds 1 ?_; rw [rounds_succ]
  go_wp2
  go_ret
  exact ⟨rfl, Below.refl _ _⟩

/-- A slice that holds a list of ranges: nothing is asked of its address where the list is empty. -/
def Held (w : World) (ao : Option Addr) (R : List Rg) : Prop := R = [] ∨ ∃ b off, ao = some ⟨b, off, none⟩ ∧ b < w.heap.size ∧ Lie w b off R

theorem Held.below {w w' : World} {ao : Option Addr} {R : List Rg} (h : Held w ao R) (hb : Below w.heap.size w w') : Held w' ao R := by
  rcases h with h | ⟨b, off, h, hlt, hl⟩
  · exact .inl h
  · exact .inr ⟨b, off, h, Nat.lt_of_lt_of_le hlt hb.size, hl.below hb hlt⟩

theorem isTable_any (R : List Rg) (ao : Option Addr) (cap : Nat) (w : World) (hL : Held w ao R) (hlen : R.length ≤ 9223372036854775807) :
    Calls Tryd.prog 48 #[.slice ao R.length cap] w fun e w' => e = .returned (.bool (isTab R)) ∧ Below w.heap.size w w' := by
  rcases hL with rfl | ⟨b, off, rfl, hb, hL⟩
  · exact isTable_nil ao cap w
  · exact isTable_some R b off cap w hL hb hlen
end Go.Proofs.YtoepcplbpochpabDoor

/-
  Plain mathematics: when the bytes of a number are a piece of a string. No Go here.
-/
namespace Go.Proofs.YtoepcplbpochpabDoor

theorem numS_toList (n : Int) : (numS n).toList = (encI n).map fun m => UInt8.ofNat m.toNat := by
  rw [ByteArray.toList_eq]; rfl

theorem byte_eq {x : Int} {a : UInt8} (h0 : 0 ≤ x) (h1 : x < 256) : UInt8.ofNat x.toNat = a ↔ x = (a.toNat : Int) := by
  constructor
  · intro h
    have := congrArg UInt8.toNat h
    rw [UInt8.toNat_ofNat', Nat.mod_eq_of_lt (by omega)] at this
    omega
  · intro h
    apply UInt8.toNat_inj.1
    rw [UInt8.toNat_ofNat', Nat.mod_eq_of_lt (by omega)]
    omega

theorem byte_lt (a : UInt8) : (a.toNat : Int) < 256 := by have := a.toNat_lt; omega

theorem test1_iff (a : UInt8) (m : Int) (hm : m = (a.toNat : Int) % 128) : (encI m).map (fun m => UInt8.ofNat m.toNat) = [a] ↔ (a.toNat : Int) < 128 := by
  have := byte_lt a
  rw [enc_one (by omega), List.map_cons, List.map_nil, List.cons.injEq, byte_eq (by omega) (by omega)]
  simp only [and_true]
  omega

theorem test2_iff (a b : UInt8) (m : Int) (hm : m = (a.toNat : Int) % 128 + 128 * ((b.toNat : Int) % 128)) :
    (encI m).map (fun m => UInt8.ofNat m.toNat) = [a, b] ↔ 128 ≤ (a.toNat : Int) ∧ (b.toNat : Int) < 128 ∧ (b.toNat : Int) ≠ 0 := by
  have := byte_lt a
  have := byte_lt b
  by_cases h : m < 128
  · rw [enc_one h]; simp only [List.map_cons, List.map_nil, List.cons.injEq, reduceCtorEq, and_false, false_iff]; omega
  · rw [enc_two h (by omega), List.map_cons, List.map_cons, List.map_nil, List.cons.injEq, List.cons.injEq, byte_eq (by omega) (by omega), byte_eq (by omega) (by omega)]
    simp only [and_true]
    omega

theorem test3_iff (a b c : UInt8) (m : Int) (hm : m = (a.toNat : Int) % 128 + 128 * ((b.toNat : Int) % 128) + 128 * (128 * ((c.toNat : Int) % 128))) :
    (encI m).map (fun m => UInt8.ofNat m.toNat) = [a, b, c] ↔ 128 ≤ (a.toNat : Int) ∧ 128 ≤ (b.toNat : Int) ∧ (c.toNat : Int) < 128 ∧ (c.toNat : Int) ≠ 0 := by
  have := byte_lt a
  have := byte_lt b
  have := byte_lt c
  by_cases h : m < 128
  · rw [enc_one h]; simp only [List.map_cons, List.map_nil, List.cons.injEq, reduceCtorEq, and_false, false_iff]; omega
  by_cases h' : m < 16384
  · rw [enc_two h h']; simp only [List.map_cons, List.map_nil, List.cons.injEq, reduceCtorEq, and_false, false_iff]; omega
  · rw [enc_three h', List.map_cons, List.map_cons, List.map_cons, List.map_nil, List.cons.injEq, List.cons.injEq, List.cons.injEq, byte_eq (by omega) (by omega), byte_eq (by omega) (by omega), byte_eq (by omega) (by omega)]
    simp only [and_true]
    omega

section
variable {s : ByteArray} {k : Nat}
theorem ext1 (h : k < s.size) : (s.extract k (k + 1)).toList = [s[k]] := by
  rw [Lib.extract_toList, drop_cons h, show k + 1 - k = 1 by omega]; rfl
theorem ext2 (h : k + 1 < s.size) : (s.extract k (k + 1 + 1)).toList = [s[k], s[k + 1]] := by
  rw [Lib.extract_toList, drop_two h, show k + 1 + 1 - k = 2 by omega]; rfl
theorem ext3 (h : k + 1 + 1 < s.size) : (s.extract k (k + 1 + 1 + 1)).toList = [s[k], s[k + 1], s[k + 1 + 1]] := by
  rw [Lib.extract_toList, drop_three h, show k + 1 + 1 + 1 - k = 3 by omega]; rfl

theorem beq_of {x y : List UInt8} {p : Prop} (h : x = y ↔ p) (hp : p) : (x == y) = true := by simpa using h.2 hp
theorem beq_not {x y : List UInt8} {p : Prop} (h : x = y ↔ p) (hp : ¬ p) : (x == y) = false := by simpa using fun e => hp (h.1 e)

theorem t1_yes (h : k < s.size) (a : ((s[k]).toNat : Int) < 128) : ((numS (((s[k]).toNat : Int) % 128)).toList == (s.extract k (k + 1)).toList) = true := by
  rw [numS_toList, ext1 h]; exact beq_of (test1_iff _ _ rfl) a
theorem t1_no (h : k < s.size) (a : ¬ ((s[k]).toNat : Int) < 128) : ((numS (((s[k]).toNat : Int) % 128)).toList == (s.extract k (k + 1)).toList) = false := by
  rw [numS_toList, ext1 h]; exact beq_not (test1_iff _ _ rfl) a
theorem t2_yes (h : k + 1 < s.size) (p : 128 ≤ ((s[k]).toNat : Int) ∧ ((s[k + 1]).toNat : Int) < 128 ∧ ((s[k + 1]).toNat : Int) ≠ 0) :
    ((numS (((s[k]).toNat : Int) % 128 + 128 * (((s[k + 1]).toNat : Int) % 128))).toList == (s.extract k (k + 1 + 1)).toList) = true := by
  rw [numS_toList, ext2 h]; exact beq_of (test2_iff _ _ _ rfl) p
theorem t2_no (h : k + 1 < s.size) (p : ¬ (128 ≤ ((s[k]).toNat : Int) ∧ ((s[k + 1]).toNat : Int) < 128 ∧ ((s[k + 1]).toNat : Int) ≠ 0)) :
    ((numS (((s[k]).toNat : Int) % 128 + 128 * (((s[k + 1]).toNat : Int) % 128))).toList == (s.extract k (k + 1 + 1)).toList) = false := by
  rw [numS_toList, ext2 h]; exact beq_not (test2_iff _ _ _ rfl) p
theorem t3_yes (h : k + 1 + 1 < s.size) (p : 128 ≤ ((s[k]).toNat : Int) ∧ 128 ≤ ((s[k + 1]).toNat : Int) ∧ ((s[k + 1 + 1]).toNat : Int) < 128 ∧ ((s[k + 1 + 1]).toNat : Int) ≠ 0) :
    ((numS (((s[k]).toNat : Int) % 128 + 128 * (((s[k + 1]).toNat : Int) % 128) + 128 * (128 * (((s[k + 1 + 1]).toNat : Int) % 128)))).toList == (s.extract k (k + 1 + 1 + 1)).toList) = true := by
  rw [numS_toList, ext3 h]; exact beq_of (test3_iff _ _ _ _ rfl) p
theorem t3_no (h : k + 1 + 1 < s.size) (p : ¬ (128 ≤ ((s[k]).toNat : Int) ∧ 128 ≤ ((s[k + 1]).toNat : Int) ∧ ((s[k + 1 + 1]).toNat : Int) < 128 ∧ ((s[k + 1 + 1]).toNat : Int) ≠ 0)) :
    ((numS (((s[k]).toNat : Int) % 128 + 128 * (((s[k + 1]).toNat : Int) % 128) + 128 * (128 * (((s[k + 1 + 1]).toNat : Int) % 128)))).toList == (s.extract k (k + 1 + 1 + 1)).toList) = false := by
  rw [numS_toList, ext3 h]; exact beq_not (test3_iff _ _ _ _ rfl) p
end
end Go.Proofs.YtoepcplbpochpabDoor
