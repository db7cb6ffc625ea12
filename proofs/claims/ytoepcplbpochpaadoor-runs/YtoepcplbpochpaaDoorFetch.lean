/-
  Between a register and its home: (*lodge.writer).spare, goal, keep, fetch.
-/
import Derived.Test.YtoepcplbpochpaaDoorPut1
namespace Go.Proofs.YtoepcplbpochpaaDoor
open Go.RowKit

/-- The register of the machine that holds the program's r; what brings it there. -/
def fetR (hs : Nat → Bool) (ha : Nat → Nat) (K : Nat) (r n : Nat) : Int := if hs r = true then (K : Int) - 2 + n else ha r
def fetC (hs : Nat → Bool) (ha : Nat → Nat) (K : Nat) (r n : Nat) : List In4 := if hs r = true then [⟨15, (K : Int) - 2 + n, ha r, 0⟩] else []
/-- The register of the machine that is written where the program writes r; what brings it home. -/
def goalR (hs : Nat → Bool) (ha : Nat → Nat) (K : Nat) (r : Nat) : Int := if hs r = true then (K : Int) - 2 else ha r
def keepC (hs : Nat → Bool) (ha : Nat → Nat) (K : Nat) (r : Nat) : List In4 := if hs r = true then [⟨16, ha r, (K : Int) - 2, 0⟩] else []

def WPost (w : World) (B : Nat) (hs : Nat → Bool) (ha : Nat → Nat) (K : Nat) (st : Nat → Nat) (C : List In4) (sv : Value) (v : Value) (e : Ending) (w' : World) : Prop :=
  e = .returned v ∧ ∃ sv', WrB w' B hs ha K st C sv' ∧ WrStep B w sv w' sv'

set_option maxRecDepth 100000 in
set_option maxHeartbeats 4000000 in
theorem spare_any (B : Nat) (hs : Nat → Bool) (ha : Nat → Nat) (K : Nat) (st : Nat → Nat) (C : List In4) (sv : Value) (n : Nat) (w : World) (h : WrB w B hs ha K st C sv) (hK : 2 ≤ K) (hK' : K ≤ 16) (hn : n ≤ 1) :
    Calls Tryd.prog 138 #[.pointer (some ⟨B, 0, none⟩), .int .i64 n] w fun e w' => e = .returned (.int .i64 ((K : Int) - 2 + n)) ∧ w' = w := by
  have c := h.k
  clear h
  go_enter Tryd.func138, Tryd.ntmps138
  go_wp2
  go_ret
  exact ⟨ret_int (by go_num), rfl⟩

/-- A home that was boxed. -/
theorem box2 (w : World) (s : Bool) (a : Int) : ∃ w2, w2 = w.alloc (.cells #[.bool s, .int .i64 a] 111) ∧ w2.cell? ⟨w.heap.size, 0, none⟩ = some (.bool s) ∧ w2.cell? ⟨w.heap.size, 1, none⟩ = some (.int .i64 a) ∧ Hid (Below w.heap.size w w2) ∧ w.heap.size < w2.heap.size := by
  have q : ∀ i, (w.alloc (.cells #[.bool s, .int .i64 a] 111)).cell? ⟨w.heap.size, i, none⟩ = #[Value.bool s, .int .i64 a][i]? := fun i => World.cell?_alloc_at (hn := rfl) ..
  exact ⟨_, rfl, (q 0).trans rfl, (q 1).trans rfl, (Below.refl _ _).alloc (Nat.le_refl _) _, by simp⟩

set_option maxRecDepth 100000 in
set_option maxHeartbeats 4000000 in
theorem goal_any (B : Nat) (hs : Nat → Bool) (ha : Nat → Nat) (K : Nat) (st : Nat → Nat) (C : List In4) (sv : Value) (r : Nat) (w : World) (h : WrB w B hs ha K st C sv) (hK : 2 ≤ K) (hK' : K ≤ 16) (hr : r < 12) :
    Calls Tryd.prog 127 #[.pointer (some ⟨B, 0, none⟩), .int .i64 r] w fun e w' => e = .returned (.int .i64 (goalR hs ha K r)) ∧ Below w.heap.size w w' := by
  have c0 := h.hs hr
  have c1 := h.ha hr
  have hri : (r : Int) < 12 := by omega
  have HG := hide (show goalR hs ha K r = if hs r = true then (K : Int) - 2 else ha r from rfl)
  obtain ⟨s, hs'⟩ : ∃ s, s = hs r := ⟨_, rfl⟩
  rw [← hs'] at c0 HG
  clear hs'
  obtain ⟨w2, hw2, q0, q1, HB2, hz2⟩ := box2 w s (ha r)
  have HW := hide hw2
  have KS := hide (spare_any B hs ha K st C sv 0 w2 (h.below (unhide HB2)) hK hK' (by omega))
  clear hw2 h
  cases s
  · rw [if_neg (by decide)] at HG
    go_enter Tryd.func127, Tryd.ntmps127
    go_upto_region 2 with fail
    rw [← unhide HW]
    go_wp2_with fail
    go_ret
    exact ⟨ret_int (unhide HG).symm, unhide HB2⟩
  · rw [if_pos rfl] at HG
    go_enter Tryd.func127, Tryd.ntmps127
    go_upto_region 2 with fail
    rw [← unhide HW]
    go_wp2_with (go_at_call 138; refine (unhide KS).mono ?_; rintro e w3 ⟨rfl, rfl⟩)
    go_ret
    exact ⟨ret_int (by rw [unhide HG]; try simp), unhide HB2⟩

set_option maxRecDepth 100000 in
set_option maxHeartbeats 4000000 in
theorem keep_any (B : Nat) (hs : Nat → Bool) (ha : Nat → Nat) (K : Nat) (st : Nat → Nat) (C : List In4) (sv : Value) (r : Nat) (w : World) (h : WrB w B hs ha K st C sv) (hK : 2 ≤ K) (hK' : K ≤ 16) (hr : r < 12) (hl : C.length ≤ 1000) :
    Calls Tryd.prog 128 #[.pointer (some ⟨B, 0, none⟩), .int .i64 r] w (WPost w B hs ha K st (C ++ keepC hs ha K r) sv (.tuple #[])) := by
  have c0 := h.hs hr
  have c1 := h.ha hr
  have hri : (r : Int) < 12 := by omega
  have HG := hide (show keepC hs ha K r = if hs r = true then [⟨16, ha r, (K : Int) - 2, 0⟩] else [] from rfl)
  obtain ⟨s, hs'⟩ : ∃ s, s = hs r := ⟨_, rfl⟩
  rw [← hs'] at c0 HG
  clear hs'
  obtain ⟨w2, hw2, q0, q1, HB2, hz2⟩ := box2 w s (ha r)
  have HW := hide hw2
  have HI2 := hide (h.below (unhide HB2))
  have KS := hide (spare_any B hs ha K st C sv 0 w2 (unhide HI2) hK hK' (by omega))
  have KP := hide (put1_any B hs ha K st C sv ⟨16, ha r, (K : Int) - 2, 0⟩ w2 (unhide HI2) hl)
  simp only at KP
  clear hw2 h
  cases s
  · rw [if_neg (by decide)] at HG
    go_enter Tryd.func128, Tryd.ntmps128
    go_upto_region 1 with fail
    rw [← unhide HW]
    go_wp2_with fail
    go_returns
    exact ⟨rfl, sv, by rw [unhide HG, List.append_nil]; exact unhide HI2, .below (unhide HB2)⟩
  · rw [if_pos rfl] at HG
    go_enter Tryd.func128, Tryd.ntmps128
    go_upto_region 1 with fail
    rw [← unhide HW]
    have e0 : (K : Int) - 2 + ((0 : Nat) : Int) = (K : Int) - 2 := by omega
    rw [e0] at KS
    clear e0
    go_wp2_with (go_at_call 138; refine (unhide KS).mono ?_; rintro e w3 ⟨rfl, rfl⟩)
    refine (unhide KP).mono ?_
    rintro e w4 ⟨rfl, sv', h4, h5⟩
    have HP : Hid (WPost w B hs ha K st (C ++ keepC hs ha K r) sv (.tuple #[]) (.returned (.tuple #[])) w4) := ⟨rfl, sv', by rw [unhide HG]; exact h4, (WrStep.below (unhide HB2)).trans h5⟩
    clear h4 h5
    go_wp2_with fail
    go_returns
    exact unhide HP

set_option maxRecDepth 100000 in
set_option maxHeartbeats 4000000 in
theorem fetch_any (B : Nat) (hs : Nat → Bool) (ha : Nat → Nat) (K : Nat) (st : Nat → Nat) (C : List In4) (sv : Value) (r n : Nat) (w : World) (h : WrB w B hs ha K st C sv) (hK : 2 ≤ K) (hK' : K ≤ 16) (hr : r < 12) (hn : n ≤ 1) (hl : C.length ≤ 1000) :
    Calls Tryd.prog 130 #[.pointer (some ⟨B, 0, none⟩), .int .i64 r, .int .i64 n] w (WPost w B hs ha K st (C ++ fetC hs ha K r n) sv (.int .i64 (fetR hs ha K r n))) := by
  have c0 := h.hs hr
  have c1 := h.ha hr
  have hri : (r : Int) < 12 := by omega
  have HG := hide (show fetC hs ha K r n = if hs r = true then [⟨15, (K : Int) - 2 + n, ha r, 0⟩] else [] from rfl)
  have HR := hide (show fetR hs ha K r n = if hs r = true then (K : Int) - 2 + n else ha r from rfl)
  obtain ⟨s, hs'⟩ : ∃ s, s = hs r := ⟨_, rfl⟩
  rw [← hs'] at c0 HG HR
  clear hs'
  obtain ⟨w2, hw2, q0, q1, HB2, hz2⟩ := box2 w s (ha r)
  have HW := hide hw2
  have HI2 := hide (h.below (unhide HB2))
  have KS := hide (spare_any B hs ha K st C sv n w2 (unhide HI2) hK hK' hn)
  obtain ⟨y, hy⟩ : ∃ y, y = (K : Int) - 2 + n := ⟨_, rfl⟩
  have KP := hide (put1_any B hs ha K st C sv ⟨15, y, ha r, 0⟩ w2 (unhide HI2) hl)
  simp only at KP
  rw [← hy] at KS HG HR
  clear hw2 h hy
  cases s
  · rw [if_neg (by decide)] at HG HR
    go_enter Tryd.func130, Tryd.ntmps130
    go_upto_region 2 with fail
    rw [← unhide HW]
    go_wp2_with fail
    go_ret
    exact ⟨ret_int (unhide HR).symm, sv, by rw [unhide HG, List.append_nil]; exact unhide HI2, .below (unhide HB2)⟩
  · rw [if_pos rfl] at HG HR
    go_enter Tryd.func130, Tryd.ntmps130
    go_upto_region 2 with fail
    rw [← unhide HW]
    go_wp2_with (go_at_call 138; refine (unhide KS).mono ?_; rintro e w3 ⟨rfl, rfl⟩)
    refine (unhide KP).mono ?_
    rintro e w4 ⟨rfl, sv', h4, h5⟩
    have HP : Hid (WPost w B hs ha K st (C ++ fetC hs ha K r n) sv (.int .i64 (fetR hs ha K r n)) (.returned (.int .i64 y)) w4) := ⟨ret_int (unhide HR).symm, sv', by rw [unhide HG]; exact h4, (WrStep.below (unhide HB2)).trans h5⟩
    clear h4 h5
    go_wp2_with fail
    go_ret
    exact unhide HP
end Go.Proofs.YtoepcplbpochpaaDoor
