/-
  What comes of an instruction: (*lodge.writer).writeCopy, writeIns.
-/
import Derived.Test.YtoepcplbpochpaaDoorPiece14
import Derived.Test.YtoepcplbpochpaaDoorPiece2
import Derived.Test.YtoepcplbpochpaaDoorPiece15
import Derived.Test.YtoepcplbpochpaaDoorPiece11
import Derived.Great.BuildSlice

namespace Go.Proofs.YtoepcplbpochpaaDoor
open Go.RowKit

/-- What comes of a Copy. -/
def copyC (hs : Nat → Bool) (ha : Nat → Nat) (K d a : Nat) : List In4 :=
  if hs d = true then fetC hs ha K a 0 ++ [⟨16, ha d, fetR hs ha K a 0, 0⟩] else if hs a = true then [⟨15, ha d, ha a, 0⟩] else [⟨1, ha d, ha a, 0⟩]
/-- What comes of an instruction, with its target as it is in the program. -/
def insC (hs : Nat → Bool) (ha : Nat → Nat) (K : Nat) (x : In4) : List In4 :=
  if x.op = 0 then [⟨0, goalR hs ha K x.d.toNat, x.a, 0⟩] ++ keepC hs ha K x.d.toNat else
  if x.op = 1 then copyC hs ha K x.d.toNat x.a.toNat else
  if 2 ≤ x.op ∧ x.op ≤ 6 then fetC hs ha K x.a.toNat 0 ++ fetC hs ha K x.b.toNat 1 ++ [⟨x.op, goalR hs ha K x.d.toNat, fetR hs ha K x.a.toNat 0, fetR hs ha K x.b.toNat 1⟩] ++ keepC hs ha K x.d.toNat else
  if x.op = 8 then fetC hs ha K x.a.toNat 0 ++ [⟨8, 0, fetR hs ha K x.a.toNat 0, x.b⟩] else
  if x.op = 9 ∨ x.op = 10 then fetC hs ha K x.a.toNat 0 ++ [⟨x.op, 0, fetR hs ha K x.a.toNat 0, 0⟩] else
  if x.op = 7 ∨ x.op = 11 then [⟨x.op, 0, x.a, 0⟩] else []

theorem fetC_len (hs : Nat → Bool) (ha : Nat → Nat) (K r n : Nat) : (fetC hs ha K r n).length ≤ 1 := by unfold fetC; split <;> simp
theorem keepC_len (hs : Nat → Bool) (ha : Nat → Nat) (K r : Nat) : (keepC hs ha K r).length ≤ 1 := by unfold keepC; split <;> simp

/-- The writer amid an instruction: what it has written, and the instruction in its box N. -/
structure WIns (w0 : World) (B N : Nat) (sv0 : Value) (x : In4) (hs : Nat → Bool) (ha : Nat → Nat) (K : Nat) (st : Nat → Nat) (C : List In4) (w : World) (sv : Value) : Prop where
  wr : WrB w B hs ha K st C sv
  step : WrStep B w0 sv0 w sv
  box : At4 w N 0 x
  apart : some N ≠ sv.ownBlock
  lt : N < w.heap.size
  ne : N ≠ B
theorem WIns.go {w0 w w' : World} {B N : Nat} {sv0 sv sv' : Value} {x : In4} {hs : Nat → Bool} {ha : Nat → Nat} {K : Nat} {st : Nat → Nat} {C C' : List In4} (h : WIns w0 B N sv0 x hs ha K st C w sv) (hw : WrB w' B hs ha K st C' sv') (hS : WrStep B w sv w' sv') : WIns w0 B N sv0 x hs ha K st C' w' sv' := by
  have hbl := hS.block h.lt h.ne h.apart
  exact ⟨hw, h.step.trans hS, ⟨(World.cell?_of_block hbl).trans h.box.1, (World.cell?_of_block hbl).trans h.box.2.1, (World.cell?_of_block hbl).trans h.box.2.2.1, (World.cell?_of_block hbl).trans h.box.2.2.2⟩, hS.fresh N h.lt h.apart, Nat.lt_of_lt_of_le h.lt hS.keep.size, h.ne⟩
theorem WIns.below {w0 w w' : World} {B N : Nat} {sv0 sv : Value} {x : In4} {hs : Nat → Bool} {ha : Nat → Nat} {K : Nat} {st : Nat → Nat} {C : List In4} (h : WIns w0 B N sv0 x hs ha K st C w sv) (hb : Below w.heap.size w w') : WIns w0 B N sv0 x hs ha K st C w' sv := h.go (h.wr.below hb) (.below hb)
theorem WIns.post {w0 w : World} {B N : Nat} {sv0 sv : Value} {x : In4} {hs : Nat → Bool} {ha : Nat → Nat} {K : Nat} {st : Nat → Nat} {C C' : List In4} (h : WIns w0 B N sv0 x hs ha K st C w sv) (e : C = C') : WPost w0 B hs ha K st C' sv0 (.tuple #[]) (.returned (.tuple #[])) w := ⟨rfl, sv, e ▸ h.wr, h.step⟩
theorem open_ins {w : World} {B : Nat} {sv : Value} {hs : Nat → Bool} {ha : Nat → Nat} {K : Nat} {st : Nat → Nat} {C : List In4} (h : WrB w B hs ha K st C sv) (x : In4) : ∃ w2, w2 = w.alloc (.cells #[.int .i64 x.op, .int .i64 x.d, .int .i64 x.a, .int .i64 x.b] 77) ∧ Hid (WIns w B w.heap.size sv x hs ha K st C w2 sv) := by
  obtain ⟨w2, hw2, hq, HB2, hz⟩ := box4 w x
  exact ⟨w2, hw2, h.below (unhide HB2), .below (unhide HB2), hq, h.apart (Nat.le_refl _), hz, by have := h.lt; omega⟩

set_option maxRecDepth 100000 in
set_option maxHeartbeats 8000000 in
theorem writeIns_any (copy : ∀ (B : Nat) (hs : Nat → Bool) (ha : Nat → Nat) (K : Nat) (st : Nat → Nat) (C : List In4) (sv : Value) (d a : Nat) (b : Int) (w : World), WrB w B hs ha K st C sv → 2 ≤ K → K ≤ 16 → d < 12 → a < 12 → C.length ≤ 900 →
      Calls Tryd.prog 129 #[.pointer (some ⟨B, 0, none⟩), .agg #[.int .i64 1, .int .i64 d, .int .i64 a, .int .i64 b]] w (WPost w B hs ha K st (C ++ copyC hs ha K d a) sv (.tuple #[])))
    (B : Nat) (hs : Nat → Bool) (ha : Nat → Nat) (K : Nat) (st : Nat → Nat) (C : List In4) (sv : Value) (x : In4) (R n V : Int) (w : World) (h : WrB w B hs ha K st C sv) (hK : 2 ≤ K) (hK' : K ≤ 16) (hx : Right R n V x) (hR : R ≤ 12) (hlow : x.op ≤ 14) (hl : C.length ≤ 900) :
    Calls Tryd.prog 99 #[.pointer (some ⟨B, 0, none⟩), .agg #[.int .i64 x.op, .int .i64 x.d, .int .i64 x.a, .int .i64 x.b]] w (WPost w B hs ha K st (C ++ insC hs ha K x) sv (.tuple #[])) := by
  have KF := hide (fun w C sv (h : WrB w B hs ha K st C sv) r n hr hn hl => fetch_any B hs ha K st C sv r n w h hK hK' hr hn hl)
  have KG := hide (fun w C sv (h : WrB w B hs ha K st C sv) r hr => goal_any B hs ha K st C sv r w h hK hK' hr)
  have KK := hide (fun w C sv (h : WrB w B hs ha K st C sv) r hr hl => keep_any B hs ha K st C sv r w h hK hK' hr hl)
  have KP := hide (fun w C sv (h : WrB w B hs ha K st C sv) x hl => put1_any B hs ha K st C sv x w h hl)
  have KC := hide (fun w C sv (h : WrB w B hs ha K st C sv) d a b hd ha' hl => copy B hs ha K st C sv d a b w h hK hK' hd ha' hl)
  obtain ⟨w2, hw2, HS2⟩ := open_ins h x
  have HW := hide hw2
  have HLF := hide (fun r n => fetC_len hs ha K r n)
  clear h hw2 copy
  obtain ⟨o0, _, rD, rA, rB, _⟩ := hx
  obtain ⟨op, d, a, b⟩ := x
  simp only at *
  rcases (show op = 0 ∨ op = 1 ∨ (2 ≤ op ∧ op ≤ 6) ∨ op = 8 ∨ (op = 9 ∨ op = 10) ∨ (op = 7 ∨ op = 11) ∨ (12 ≤ op ∧ op ≤ 14) by omega) with rfl | rfl | ho | rfl | ho | ho | ho
  -- Const
  · obtain ⟨d0, d1⟩ := rD (.inl rfl)
    obtain ⟨dn, rfl⟩ : ∃ dn : Nat, d = dn := ⟨d.toNat, by omega⟩
    have hdn : dn < 12 := by omega
    clear rA rB rD d0 d1
    obtain ⟨q0, q1, q2, q3⟩ := (unhide HS2).box
    simp only at q0 q1 q2 q3
    go_enter Tryd.func99, Tryd.ntmps99
    go_wp2_with fail
    rw [← unhide HW]
    go_wp2_with fail
    refine (unhide KG w2 C sv (unhide HS2).wr dn hdn).mono ?_
    rintro e w3 ⟨rfl, hb3⟩
    have HS3 := hide ((unhide HS2).below hb3)
    clear hb3 HS2 q0 q1 q2 q3
    obtain ⟨q0, q1, q2, q3⟩ := (unhide HS3).box
    simp only at q0 q1 q2 q3
    go_wp2_with fail
    refine (unhide KP w3 C sv (unhide HS3).wr ⟨0, goalR hs ha K dn, a, 0⟩ (by omega)).mono ?_
    rintro e w4 ⟨rfl, sv4, hw4, hs4⟩
    have HS4 := hide ((unhide HS3).go hw4 hs4)
    clear hw4 hs4 HS3 q0 q1 q2 q3
    obtain ⟨q0, q1, q2, q3⟩ := (unhide HS4).box
    simp only at q0 q1 q2 q3
    go_wp2_with fail
    refine (unhide KK w4 _ sv4 (unhide HS4).wr dn hdn (by simp; omega)).mono ?_
    rintro e w5 ⟨rfl, sv5, hw5, hs5⟩
    have HS5 := hide ((unhide HS4).go hw5 hs5)
    clear hw5 hs5 HS4 q0 q1 q2 q3
    go_wp2_with fail
    go_returns
    exact (unhide HS5).post (by unfold insC; simp)
  · obtain ⟨d0, d1⟩ := rD (.inr (.inl rfl))
    obtain ⟨dn, rfl⟩ : ∃ dn : Nat, d = dn := ⟨d.toNat, by omega⟩
    have hdn : dn < 12 := by omega
    obtain ⟨a0, a1⟩ := rA (.inl rfl)
    obtain ⟨an, rfl⟩ : ∃ an : Nat, a = an := ⟨a.toNat, by omega⟩
    have han : an < 12 := by omega
    clear rA rB rD d0 d1 a0 a1
    obtain ⟨q0, q1, q2, q3⟩ := (unhide HS2).box
    simp only at q0 q1 q2 q3
    go_enter Tryd.func99, Tryd.ntmps99
    go_wp2_with fail
    rw [← unhide HW]
    go_wp2_with fail
    refine (unhide KC w2 _ sv (unhide HS2).wr dn an b hdn han hl).mono ?_
    rintro e w3 ⟨rfl, sv3, hw, hs'⟩
    have HS3 := hide ((unhide HS2).go hw hs')
    clear hw hs'
    clear HS2 q0 q1 q2 q3
    obtain ⟨q0, q1, q2, q3⟩ := (unhide HS3).box
    simp only at q0 q1 q2 q3
    go_wp2_with fail
    go_returns
    exact (unhide HS3).post (by unfold insC; simp)
  · obtain ⟨d0, d1⟩ := rD (.inr (.inr ho))
    obtain ⟨dn, rfl⟩ : ∃ dn : Nat, d = dn := ⟨d.toNat, by omega⟩
    have hdn : dn < 12 := by omega
    obtain ⟨a0, a1⟩ := rA (.inr (.inl ho))
    obtain ⟨an, rfl⟩ : ∃ an : Nat, a = an := ⟨a.toNat, by omega⟩
    have han : an < 12 := by omega
    obtain ⟨b0, b1⟩ := rB ho
    obtain ⟨bn, rfl⟩ : ∃ bn : Nat, b = bn := ⟨b.toNat, by omega⟩
    have hbn : bn < 12 := by omega
    clear rA rB rD d0 d1 a0 a1 b0 b1
    obtain ⟨ho1, ho2⟩ := ho
    rcases (show op = 2 ∨ op = 3 ∨ op = 4 ∨ op = 5 ∨ op = 6 by omega) with rfl | rfl | rfl | rfl | rfl
    all_goals
      obtain ⟨q0, q1, q2, q3⟩ := (unhide HS2).box
      simp only at q0 q1 q2 q3
      go_enter Tryd.func99, Tryd.ntmps99
      go_wp2_with fail
      rw [← unhide HW]
      go_wp2_with fail
      refine (unhide KF w2 _ sv (unhide HS2).wr an 0 han (by omega) (by have l1 := unhide HLF; simp; first | omega | (have := l1 an 0; omega) | (have := l1 an 0; have := l1 bn 1; omega))).mono ?_
      rintro e w3 ⟨rfl, sv3, hw, hs'⟩
      have HS3 := hide ((unhide HS2).go hw hs')
      clear hw hs'
      clear HS2 q0 q1 q2 q3
      obtain ⟨q0, q1, q2, q3⟩ := (unhide HS3).box
      simp only at q0 q1 q2 q3
      go_wp2_with fail
      refine (unhide KF w3 _ sv3 (unhide HS3).wr bn 1 hbn (by omega) (by have l1 := unhide HLF; simp; first | omega | (have := l1 an 0; omega) | (have := l1 an 0; have := l1 bn 1; omega))).mono ?_
      rintro e w4 ⟨rfl, sv4, hw, hs'⟩
      have HS4 := hide ((unhide HS3).go hw hs')
      clear hw hs'
      clear HS3 q0 q1 q2 q3
      obtain ⟨q0, q1, q2, q3⟩ := (unhide HS4).box
      simp only at q0 q1 q2 q3
      go_wp2_with fail
      refine (unhide KG w4 _ sv4 (unhide HS4).wr dn hdn).mono ?_
      rintro e w5 ⟨rfl, hb⟩
      have HS5 := hide ((unhide HS4).below hb)
      clear hb
      clear HS4 q0 q1 q2 q3
      obtain ⟨q0, q1, q2, q3⟩ := (unhide HS5).box
      simp only at q0 q1 q2 q3
      go_wp2_with fail
      refine (unhide KP w5 _ sv4 (unhide HS5).wr ⟨_, goalR hs ha K dn, fetR hs ha K an 0, fetR hs ha K bn 1⟩ (by have l1 := unhide HLF; simp; first | omega | (have := l1 an 0; omega) | (have := l1 an 0; have := l1 bn 1; omega))).mono ?_
      rintro e w6 ⟨rfl, sv6, hw, hs'⟩
      have HS6 := hide ((unhide HS5).go hw hs')
      clear hw hs'
      clear HS5 q0 q1 q2 q3
      obtain ⟨q0, q1, q2, q3⟩ := (unhide HS6).box
      simp only at q0 q1 q2 q3
      go_wp2_with fail
      refine (unhide KK w6 _ sv6 (unhide HS6).wr dn hdn (by have l1 := unhide HLF; simp; first | omega | (have := l1 an 0; omega) | (have := l1 an 0; have := l1 bn 1; omega))).mono ?_
      rintro e w7 ⟨rfl, sv7, hw, hs'⟩
      have HS7 := hide ((unhide HS6).go hw hs')
      clear hw hs'
      clear HS6 q0 q1 q2 q3
      obtain ⟨q0, q1, q2, q3⟩ := (unhide HS7).box
      simp only at q0 q1 q2 q3
      go_wp2_with fail
      go_returns
      exact (unhide HS7).post (by unfold insC; simp)
  · obtain ⟨a0, a1⟩ := rA (.inr (.inr (.inl rfl)))
    obtain ⟨an, rfl⟩ : ∃ an : Nat, a = an := ⟨a.toNat, by omega⟩
    have han : an < 12 := by omega
    clear rA rB rD a0 a1
    obtain ⟨q0, q1, q2, q3⟩ := (unhide HS2).box
    simp only at q0 q1 q2 q3
    go_enter Tryd.func99, Tryd.ntmps99
    go_wp2_with fail
    rw [← unhide HW]
    go_wp2_with fail
    refine (unhide KF w2 _ sv (unhide HS2).wr an 0 han (by omega) (by have l1 := unhide HLF; simp; first | omega | (have := l1 an 0; omega) | (have := l1 an 0; have := l1 an 1; omega))).mono ?_
    rintro e w3 ⟨rfl, sv3, hw, hs'⟩
    have HS3 := hide ((unhide HS2).go hw hs')
    clear hw hs'
    clear HS2 q0 q1 q2 q3
    obtain ⟨q0, q1, q2, q3⟩ := (unhide HS3).box
    simp only at q0 q1 q2 q3
    go_wp2_with fail
    refine (unhide KP w3 _ sv3 (unhide HS3).wr ⟨8, 0, fetR hs ha K an 0, b⟩ (by have l1 := unhide HLF; simp; first | omega | (have := l1 an 0; omega) | (have := l1 an 0; have := l1 an 1; omega))).mono ?_
    rintro e w4 ⟨rfl, sv4, hw, hs'⟩
    have HS4 := hide ((unhide HS3).go hw hs')
    clear hw hs'
    clear HS3 q0 q1 q2 q3
    obtain ⟨q0, q1, q2, q3⟩ := (unhide HS4).box
    simp only at q0 q1 q2 q3
    go_wp2_with fail
    go_returns
    exact (unhide HS4).post (by unfold insC; simp)
  · obtain ⟨a0, a1⟩ := rA (by omega)
    obtain ⟨an, rfl⟩ : ∃ an : Nat, a = an := ⟨a.toNat, by omega⟩
    have han : an < 12 := by omega
    clear rA rB rD a0 a1
    rcases ho with rfl | rfl
    all_goals
      obtain ⟨q0, q1, q2, q3⟩ := (unhide HS2).box
      simp only at q0 q1 q2 q3
      go_enter Tryd.func99, Tryd.ntmps99
      go_wp2_with fail
      rw [← unhide HW]
      go_wp2_with fail
      refine (unhide KF w2 _ sv (unhide HS2).wr an 0 han (by omega) (by have l1 := unhide HLF; simp; first | omega | (have := l1 an 0; omega) | (have := l1 an 0; have := l1 an 1; omega))).mono ?_
      rintro e w3 ⟨rfl, sv3, hw, hs'⟩
      have HS3 := hide ((unhide HS2).go hw hs')
      clear hw hs'
      clear HS2 q0 q1 q2 q3
      obtain ⟨q0, q1, q2, q3⟩ := (unhide HS3).box
      simp only at q0 q1 q2 q3
      go_wp2_with fail
      refine (unhide KP w3 _ sv3 (unhide HS3).wr ⟨_, 0, fetR hs ha K an 0, 0⟩ (by have l1 := unhide HLF; simp; first | omega | (have := l1 an 0; omega) | (have := l1 an 0; have := l1 an 1; omega))).mono ?_
      rintro e w4 ⟨rfl, sv4, hw, hs'⟩
      have HS4 := hide ((unhide HS3).go hw hs')
      clear hw hs'
      clear HS3 q0 q1 q2 q3
      obtain ⟨q0, q1, q2, q3⟩ := (unhide HS4).box
      simp only at q0 q1 q2 q3
      go_wp2_with fail
      go_returns
      exact (unhide HS4).post (by unfold insC; simp)
  · clear rA rB rD
    rcases ho with rfl | rfl
    all_goals
      obtain ⟨q0, q1, q2, q3⟩ := (unhide HS2).box
      simp only at q0 q1 q2 q3
      go_enter Tryd.func99, Tryd.ntmps99
      go_wp2_with fail
      rw [← unhide HW]
      go_wp2_with fail
      refine (unhide KP w2 _ sv (unhide HS2).wr ⟨_, 0, a, 0⟩ (by have l1 := unhide HLF; simp; first | omega | (have := l1 0 0; omega) | (have := l1 0 0; have := l1 0 1; omega))).mono ?_
      rintro e w3 ⟨rfl, sv3, hw, hs'⟩
      have HS3 := hide ((unhide HS2).go hw hs')
      clear hw hs'
      clear HS2 q0 q1 q2 q3
      obtain ⟨q0, q1, q2, q3⟩ := (unhide HS3).box
      simp only at q0 q1 q2 q3
      go_wp2_with fail
      go_returns
      exact (unhide HS3).post (by unfold insC; simp)
  · clear rA rB rD
    obtain ⟨ho1, ho2⟩ := ho
    rcases (show op = 12 ∨ op = 13 ∨ op = 14 by omega) with rfl | rfl | rfl
    all_goals
      obtain ⟨q0, q1, q2, q3⟩ := (unhide HS2).box
      simp only at q0 q1 q2 q3
      go_enter Tryd.func99, Tryd.ntmps99
      go_wp2_with fail
      rw [← unhide HW]
      go_wp2_with fail
      go_returns
      exact (unhide HS2).post (by unfold insC; simp)
end Go.Proofs.YtoepcplbpochpaaDoor

/-
  What comes of a Copy: (*lodge.writer).writeCopy; so what comes of every instruction.
-/
namespace Go.Proofs.YtoepcplbpochpaaDoor
open Go.RowKit

set_option maxRecDepth 100000 in
set_option maxHeartbeats 8000000 in
theorem writeCopy_any (B : Nat) (hs : Nat → Bool) (ha : Nat → Nat) (K : Nat) (st : Nat → Nat) (C : List In4) (sv : Value) (d a : Nat) (b : Int) (w : World) (h : WrB w B hs ha K st C sv) (hK : 2 ≤ K) (hK' : K ≤ 16) (hd : d < 12) (ha' : a < 12) (hl : C.length ≤ 900) :
    Calls Tryd.prog 129 #[.pointer (some ⟨B, 0, none⟩), .agg #[.int .i64 1, .int .i64 d, .int .i64 a, .int .i64 b]] w (WPost w B hs ha K st (C ++ copyC hs ha K d a) sv (.tuple #[])) := by
  have KF := hide (fun w C sv (h : WrB w B hs ha K st C sv) r n hr hn hl => fetch_any B hs ha K st C sv r n w h hK hK' hr hn hl)
  have KP := hide (fun w C sv (h : WrB w B hs ha K st C sv) x hl => put1_any B hs ha K st C sv x w h hl)
  obtain ⟨w2, hw2, HS2⟩ := open_ins h ⟨1, d, a, b⟩
  have HW := hide hw2
  have HLF := hide (fun r n => fetC_len hs ha K r n)
  have HCC := hide (show copyC hs ha K d a = if hs d = true then fetC hs ha K a 0 ++ [⟨16, ha d, fetR hs ha K a 0, 0⟩] else if hs a = true then [⟨15, ha d, ha a, 0⟩] else [⟨1, ha d, ha a, 0⟩] from rfl)
  clear h hw2
  have hdi : (d : Int) < 12 := by omega
  have hai : (a : Int) < 12 := by omega
  obtain ⟨q0, q1, q2, q3⟩ := (unhide HS2).box
  simp only at q0 q1 q2 q3
  have c1 := (unhide HS2).wr.hs ha'
  have c2 := (unhide HS2).wr.ha ha'
  have hz2 := (unhide HS2).lt
  have hB2 := (unhide HS2).wr.lt
  have hne := (unhide HS2).ne
  obtain ⟨sa, hsa⟩ : ∃ s, s = hs a := ⟨_, rfl⟩
  obtain ⟨sd, hsd⟩ : ∃ s, s = hs d := ⟨_, rfl⟩
  obtain ⟨ya, hya⟩ : ∃ y, y = ha a := ⟨_, rfl⟩
  obtain ⟨yd, hyd⟩ : ∃ y, y = ha d := ⟨_, rfl⟩
  have HE := hide (And.intro hsa (And.intro hsd (And.intro hya hyd)))
  rw [← hsa] at c1
  rw [← hya] at c2
  clear hsa hsd hya hyd
  go_enter Tryd.func129, Tryd.ntmps129
  go_wp2_with fail
  rw [← unhide HW]
  go_wp2_with fail
  go_region_held3 (fun w' => w'.cell? ⟨w.heap.size, 2, none⟩ = some (.int .i64 (a : Int)) ∧ w'.cell? ⟨B, a * 2, none⟩ = some (.bool sa) ∧ w'.cell? ⟨B, a * 2 + 1, none⟩ = some (.int .i64 (ya : Int))) (go_keep) (fail)
  obtain ⟨w3, hw3⟩ : ∃ w3, w3 = (w2.alloc (.cells #[.bool sa, .int .i64 (ya : Int)] 111)).drew := ⟨_, rfl⟩
  rw [← hw3]
  have hb3 : Below w2.heap.size w2 w3 := by rw [hw3]; exact (below_alloc _ _).drew
  have HS3 := hide ((unhide HS2).below hb3)
  have e0 : w3.cell? ⟨w2.heap.size, 0, none⟩ = some (.bool sa) := by rw [hw3]; exact (World.cell?_alloc_at (hn := rfl) ..).trans rfl
  have e1 : w3.cell? ⟨w2.heap.size, 1, none⟩ = some (.int .i64 (ya : Int)) := by rw [hw3]; exact (World.cell?_alloc_at (hn := rfl) ..).trans rfl
  have hz3 : w2.heap.size < w3.heap.size := by rw [hw3]; simp
  have HA3 : Hid (some w2.heap.size ≠ sv.ownBlock) := (unhide HS2).wr.apart (Nat.le_refl _)
  clear q0 q1 q2 q3 c1 c2 hw3 hb3 HS2
  obtain ⟨q0, q1, q2, q3⟩ := (unhide HS3).box
  simp only at q0 q1 q2 q3
  have c1 := (unhide HS3).wr.hs hd
  have c2 := (unhide HS3).wr.ha hd
  rw [← (unhide HE).2.1] at c1
  rw [← (unhide HE).2.2.2] at c2
  have hB3 := (unhide HS3).wr.lt
  have hz3' := (unhide HS3).lt
  go_wp2_with fail
  go_region_held3 (fun w' => w'.cell? ⟨w.heap.size, 1, none⟩ = some (.int .i64 (d : Int)) ∧ w'.cell? ⟨B, d * 2, none⟩ = some (.bool sd) ∧ w'.cell? ⟨B, d * 2 + 1, none⟩ = some (.int .i64 (yd : Int))) (go_keep) (fail)
  obtain ⟨w4, hw4⟩ : ∃ w4, w4 = (w3.alloc (.cells #[.bool sd, .int .i64 (yd : Int)] 111)).drew := ⟨_, rfl⟩
  rw [← hw4]
  have hb4 : Below w3.heap.size w3 w4 := by rw [hw4]; exact (below_alloc _ _).drew
  have HS4 := hide ((unhide HS3).below hb4)
  have f0 : w4.cell? ⟨w3.heap.size, 0, none⟩ = some (.bool sd) := by rw [hw4]; exact (World.cell?_alloc_at (hn := rfl) ..).trans rfl
  have f1 : w4.cell? ⟨w3.heap.size, 1, none⟩ = some (.int .i64 (yd : Int)) := by rw [hw4]; exact (World.cell?_alloc_at (hn := rfl) ..).trans rfl
  have g0 : w4.cell? ⟨w2.heap.size, 0, none⟩ = some (.bool sa) := (hb4.cell (p := ⟨w2.heap.size, 0, none⟩) hz3).trans e0
  have g1 : w4.cell? ⟨w2.heap.size, 1, none⟩ = some (.int .i64 (ya : Int)) := (hb4.cell (p := ⟨w2.heap.size, 1, none⟩) hz3).trans e1
  have hz4 : w3.heap.size < w4.heap.size := by rw [hw4]; simp
  have HA4 : Hid (some w3.heap.size ≠ sv.ownBlock) := (unhide HS3).wr.apart (Nat.le_refl _)
  have hB4 : B < w3.heap.size := hB3
  have HD3 := hide f1
  clear q0 q1 q2 q3 c1 c2 hw4 hb4 HS3 e0 e1
  obtain ⟨q0, q1, q2, q3⟩ := (unhide HS4).box
  simp only at q0 q1 q2 q3
  rw [← (unhide HE).1, ← (unhide HE).2.1, ← (unhide HE).2.2.1, ← (unhide HE).2.2.2] at HCC
  cases sd
  · rw [if_neg (by decide)] at HCC
    cases sa
    · rw [if_neg (by decide)] at HCC
      go_wp2_with fail
      refine (unhide KP w4 _ sv (unhide HS4).wr ⟨1, yd, ya, 0⟩ (by omega)).mono ?_
      rintro e w5 ⟨rfl, sv5, hw5, hs5⟩
      have HS5 := hide ((unhide HS4).go hw5 hs5)
      clear hw5 hs5
      go_wp2_with fail
      go_returns
      exact (unhide HS5).post (by rw [unhide HCC])
    · rw [if_pos rfl] at HCC
      go_wp2_with fail
      refine (unhide KP w4 _ sv (unhide HS4).wr ⟨15, yd, ya, 0⟩ (by omega)).mono ?_
      rintro e w5 ⟨rfl, sv5, hw5, hs5⟩
      have HS5 := hide ((unhide HS4).go hw5 hs5)
      clear hw5 hs5
      go_wp2_with fail
      go_returns
      exact (unhide HS5).post (by rw [unhide HCC])
  · rw [if_pos rfl] at HCC
    go_wp2_with fail
    refine (unhide KF w4 _ sv (unhide HS4).wr a 0 ha' (by omega) (by omega)).mono ?_
    rintro e w5 ⟨rfl, sv5, hw5, hs5⟩
    have HS5 := hide ((unhide HS4).go hw5 hs5)
    have f1' : w5.cell? ⟨w3.heap.size, 1, none⟩ = some (.int .i64 (yd : Int)) := (World.cell?_of_block (hs5.block (k := w3.heap.size) hz4 (show w3.heap.size ≠ B by omega) (unhide HA4))).trans (unhide HD3)
    clear hw5 hs5 q0 q1 q2 q3 f0 f1 g0 g1
    go_wp2_with fail
    refine (unhide KP w5 _ sv5 (unhide HS5).wr ⟨16, yd, fetR hs ha K a 0, 0⟩ (by rw [List.length_append]; have := unhide HLF a 0; omega)).mono ?_
    rintro e w6 ⟨rfl, sv6, hw6, hs6⟩
    have HS6 := hide ((unhide HS5).go hw6 hs6)
    clear hw6 hs6
    go_wp2_with fail
    go_returns
    exact (unhide HS6).post (by rw [unhide HCC, List.append_assoc])

/-- What comes of an instruction. -/
theorem writeI_any (B : Nat) (hs : Nat → Bool) (ha : Nat → Nat) (K : Nat) (st : Nat → Nat) (C : List In4) (sv : Value) (x : In4) (R n V : Int) (w : World) (h : WrB w B hs ha K st C sv) (hK : 2 ≤ K) (hK' : K ≤ 16) (hx : Right R n V x) (hR : R ≤ 12) (hlow : x.op ≤ 14) (hl : C.length ≤ 900) :
    Calls Tryd.prog 99 #[.pointer (some ⟨B, 0, none⟩), .agg #[.int .i64 x.op, .int .i64 x.d, .int .i64 x.a, .int .i64 x.b]] w (WPost w B hs ha K st (C ++ insC hs ha K x) sv (.tuple #[])) :=
  writeIns_any (fun B hs ha K st C sv d a b w h h1 h2 h3 h4 h5 => writeCopy_any B hs ha K st C sv d a b w h h1 h2 h3 h4 h5) B hs ha K st C sv x R n V w h hK hK' hx hR hlow hl
end Go.Proofs.YtoepcplbpochpaaDoor

/-
  The code of a unit: (*lodge.writer).writeProg.
-/
namespace Go.Proofs.YtoepcplbpochpaaDoor
open Go.RowKit

/-- What comes of the first i instructions, behind the args. -/
def wTo (hs : Nat → Bool) (ha : Nat → Nat) (K : Nat) (s : Nat → Bool) (P : Nat) (L : List In4) : Nat → List In4
  | 0 => loadC hs ha s P
  | i + 1 => wTo hs ha K s P L i ++ insC hs ha K (inAt L i)
/-- Where what comes of the first i instructions begins. -/
def stF (hs : Nat → Bool) (ha : Nat → Nat) (K : Nat) (s : Nat → Bool) (P : Nat) (L : List In4) (i : Nat) : Nat → Nat := fun j => if j < i then (wTo hs ha K s P L j).length else 0
/-- The unit's code. -/
def codeB (hs : Nat → Bool) (ha : Nat → Nat) (K : Nat) (s : Nat → Bool) (P : Nat) (L : List In4) : List In4 := (wTo hs ha K s P L L.length).map (tgt (stF hs ha K s P L L.length))

theorem copyC_len (hs : Nat → Bool) (ha : Nat → Nat) (K d a : Nat) : 1 ≤ (copyC hs ha K d a).length ∧ (copyC hs ha K d a).length ≤ 2 := by
  unfold copyC
  have := fetC_len hs ha K a 0
  split
  · rw [List.length_append]; simp; omega
  · split <;> simp
theorem insC_len (hs : Nat → Bool) (ha : Nat → Nat) (K : Nat) (x : In4) : (insC hs ha K x).length ≤ 4 := by
  unfold insC
  have h1 := fetC_len hs ha K x.a.toNat 0
  have h2 := fetC_len hs ha K x.b.toNat 1
  have h3 := keepC_len hs ha K x.d.toNat
  have h4 := copyC_len hs ha K x.d.toNat x.a.toNat
  split
  · rw [List.length_append]; simp; omega
  split
  · omega
  split
  · rw [List.length_append, List.length_append, List.length_append]; simp; omega
  split
  · rw [List.length_append]; simp; omega
  split
  · rw [List.length_append]; simp; omega
  split <;> simp
theorem wTo_len (hs : Nat → Bool) (ha : Nat → Nat) (K : Nat) (s : Nat → Bool) (P : Nat) (L : List In4) : ∀ i, (wTo hs ha K s P L i).length ≤ P + 4 * i
  | 0 => loadC_len hs ha s P
  | i + 1 => by
    have h1 := wTo_len hs ha K s P L i
    have h2 := insC_len hs ha K (inAt L i)
    show (_ ++ _ : List In4).length ≤ _
    rw [List.length_append]; omega
theorem stF_step (hs : Nat → Bool) (ha : Nat → Nat) (K : Nat) (s : Nat → Bool) (P : Nat) (L : List In4) (i j : Nat) : stF hs ha K s P L (i + 1) j = if j = i then (wTo hs ha K s P L i).length else stF hs ha K s P L i j := by
  unfold stF
  by_cases e : j = i
  · subst e; rw [if_pos (by omega), if_pos rfl]
  · rw [if_neg e]
    by_cases h : j < i
    · rw [if_pos h, if_pos (by omega)]
    · rw [if_neg h, if_neg (by omega)]

/-- Which targets stand in what was written. -/
def TgOk (x : In4) : Prop := (x.op = 7 → 0 ≤ x.a ∧ x.a < 40) ∧ (x.op = 8 → 0 ≤ x.b ∧ x.b < 40)
theorem tgOk_other {x : In4} (h7 : x.op ≠ 7) (h8 : x.op ≠ 8) : TgOk x := ⟨fun h => absurd h h7, fun h => absurd h h8⟩
theorem fetC_tg (hs : Nat → Bool) (ha : Nat → Nat) (K r n : Nat) : ∀ y ∈ fetC hs ha K r n, TgOk y := fun y hy => by
  unfold fetC at hy
  split at hy
  · rw [List.mem_singleton] at hy; subst hy; exact tgOk_other (by show (15 : Int) ≠ 7; decide) (by show (15 : Int) ≠ 8; decide)
  · cases hy
theorem keepC_tg (hs : Nat → Bool) (ha : Nat → Nat) (K r : Nat) : ∀ y ∈ keepC hs ha K r, TgOk y := fun y hy => by
  unfold keepC at hy
  split at hy
  · rw [List.mem_singleton] at hy; subst hy; exact tgOk_other (by show (16 : Int) ≠ 7; decide) (by show (16 : Int) ≠ 8; decide)
  · cases hy
theorem insC_tg (hs : Nat → Bool) (ha : Nat → Nat) (K : Nat) {x : In4} {R V : Int} {n : Nat} (hn : n ≤ 40) (hx : Right R n V x) : ∀ y ∈ insC hs ha K x, TgOk y := fun y hy => by
  unfold insC at hy
  split at hy
  · rw [List.mem_append, List.mem_singleton] at hy
    rcases hy with rfl | hy
    · exact tgOk_other (by show (0 : Int) ≠ 7; decide) (by show (0 : Int) ≠ 8; decide)
    · exact keepC_tg _ _ _ _ y hy
  split at hy
  · unfold copyC at hy
    split at hy
    · rw [List.mem_append, List.mem_singleton] at hy
      rcases hy with hy | rfl
      · exact fetC_tg _ _ _ _ _ y hy
      · exact tgOk_other (by show (16 : Int) ≠ 7; decide) (by show (16 : Int) ≠ 8; decide)
    · split at hy
      · rw [List.mem_singleton] at hy; subst hy; exact tgOk_other (by show (15 : Int) ≠ 7; decide) (by show (15 : Int) ≠ 8; decide)
      · rw [List.mem_singleton] at hy; subst hy; exact tgOk_other (by show (1 : Int) ≠ 7; decide) (by show (1 : Int) ≠ 8; decide)
  split at hy
  · rename_i ho
    rw [List.mem_append, List.mem_append, List.mem_append, List.mem_singleton] at hy
    rcases hy with ((hy | hy) | rfl) | hy
    · exact fetC_tg _ _ _ _ _ y hy
    · exact fetC_tg _ _ _ _ _ y hy
    · exact tgOk_other (by show x.op ≠ 7; omega) (by show x.op ≠ 8; omega)
    · exact keepC_tg _ _ _ _ y hy
  split at hy
  · rename_i ho
    rw [List.mem_append, List.mem_singleton] at hy
    rcases hy with hy | rfl
    · exact fetC_tg _ _ _ _ _ y hy
    · have := hx.2.2.2.2.2.2.2.1 ho
      exact ⟨fun h => by simp at h, fun _ => by show 0 ≤ x.b ∧ x.b < 40; omega⟩
  split at hy
  · rename_i ho
    rw [List.mem_append, List.mem_singleton] at hy
    rcases hy with hy | rfl
    · exact fetC_tg _ _ _ _ _ y hy
    · exact tgOk_other (by show x.op ≠ 7; omega) (by show x.op ≠ 8; omega)
  split at hy
  · rename_i ho
    rw [List.mem_singleton] at hy
    subst hy
    refine ⟨fun h => ?_, fun h => ?_⟩
    · have := hx.2.2.2.2.2.2.1 h; show 0 ≤ x.a ∧ x.a < 40; omega
    · have h' : x.op = 8 := h; omega
  · cases hy
theorem loadC_tg (hs : Nat → Bool) (ha : Nat → Nat) (s : Nat → Bool) : ∀ k, ∀ y ∈ loadC hs ha s k, TgOk y
  | 0, y, hy => by cases hy
  | k + 1, y, hy => by
    have hy' : y ∈ loadC hs ha s k ++ if (s k && !hs k) = true then [⟨15, ha k, k, 0⟩] else [] := hy
    rw [List.mem_append] at hy'
    rcases hy' with hy | hy
    · exact loadC_tg hs ha s k y hy
    · split at hy
      · rw [List.mem_singleton] at hy; subst hy; exact tgOk_other (by show (15 : Int) ≠ 7; decide) (by show (15 : Int) ≠ 8; decide)
      · cases hy
theorem wTo_tg (hs : Nat → Bool) (ha : Nat → Nat) (K : Nat) (s : Nat → Bool) (P : Nat) {L : List In4} {R V : Int} (hn : L.length ≤ 40) (hL : ∀ i, i < L.length → Right R L.length V (inAt L i)) : ∀ i, i ≤ L.length → ∀ y ∈ wTo hs ha K s P L i, TgOk y
  | 0, _, y, hy => loadC_tg hs ha s P y hy
  | i + 1, hi, y, hy => by
    have hy' : y ∈ wTo hs ha K s P L i ++ insC hs ha K (inAt L i) := hy
    rw [List.mem_append] at hy'
    rcases hy' with hy | hy
    · exact wTo_tg hs ha K s P hn hL i (by omega) y hy
    · exact insC_tg hs ha K hn (hL i (by omega)) y hy
theorem inAt_mem {C : List In4} {i : Nat} (h : i < C.length) : inAt C i ∈ C := by
  unfold inAt
  rw [List.getD_eq_getElem?_getD, List.getElem?_eq_getElem h]
  exact List.getElem_mem h
/-- The last instruction is written. -/
theorem wTo_pos (hs : Nat → Bool) (ha : Nat → Nat) (K : Nat) (s : Nat → Bool) (P : Nat) {L : List In4} (hn : 1 ≤ L.length) (hl : (inAt L (L.length - 1)).op = 7 ∨ (inAt L (L.length - 1)).op = 10) : 1 ≤ (wTo hs ha K s P L L.length).length := by
  obtain ⟨m, hm⟩ : ∃ m, L.length = m + 1 := ⟨L.length - 1, by omega⟩
  rw [hm] at hl ⊢
  show 1 ≤ (_ ++ insC hs ha K (inAt L m)).length
  rw [List.length_append]
  have : 1 ≤ (insC hs ha K (inAt L m)).length := by
    rw [show m + 1 - 1 = m by omega] at hl
    unfold insC
    rcases hl with h | h
    · rw [if_neg (by omega), if_neg (by omega), if_neg (by omega), if_neg (by omega), if_neg (by omega), if_pos (.inl h)]; simp
    · rw [if_neg (by omega), if_neg (by omega), if_neg (by omega), if_neg (by omega), if_pos (.inr h), List.length_append]; simp
  omega

theorem WrB.shape {w : World} {B : Nat} {hs : Nat → Bool} {ha : Nat → Nat} {K : Nat} {st : Nat → Nat} {C : List In4} {sv : Value} (h : WrB w B hs ha K st C sv) : ∃ ao cap, sv = .slice ao C.length cap := by
  rcases h.own.2 with ⟨h1, h0⟩ | ⟨g, cap, cur, h1, _⟩
  · exact ⟨none, 0, by rw [h0]; exact h1⟩
  · exact ⟨_, _, h1⟩
theorem WrB.set_start {w : World} {B : Nat} {hs : Nat → Bool} {ha : Nat → Nat} {K : Nat} {st st' : Nat → Nat} {C : List In4} {sv : Value} (h : WrB w B hs ha K st C sv) {i m : Nat} (hst : ∀ j, st' j = if j = i then m else st j) : WrB (w.setCell ⟨B, 26 + i, none⟩ (.int .i64 m)) B hs ha K st' C sv := by
  refine ⟨(h.row.set (26 + i) (.int .i64 m)).congr (fun o ho => ?_), ownsRow_setCell_other h.own (fun e => by have := (own_in h.own B e).1; omega) _⟩
  unfold wrV
  by_cases e : o = 26 + i
  · subst e; rw [if_pos rfl, if_neg (by omega), if_neg (by omega), if_neg (by omega), hst, if_pos (by omega)]
  · rw [if_neg e]
    split
    · rfl
    split
    · rfl
    split
    · rfl
    rw [hst, if_neg (by omega)]

set_option maxRecDepth 100000 in
set_option maxHeartbeats 8000000 in
theorem writeProg_any (B : Nat) (hs : Nat → Bool) (ha : Nat → Nat) (K : Nat) (sv : Value) (P R V : Nat) (L : List In4) (ao : Option Addr) (cap : Nat) (s : Nat → Bool) (w : World) (h : WrB w B hs ha K (fun _ => 0) [] sv) (hK : 2 ≤ K) (hK' : K ≤ 16) (hp : RightP P R V L)
    (hH : HeldIns w ao L) (hHB : ∀ b off, ao = some ⟨b, off, none⟩ → b < B) :
    Calls Tryd.prog 69 #[.pointer (some ⟨B, 0, none⟩), .agg #[.int .i64 P, .int .i64 R, .int .i64 V, .slice ao L.length cap], .agg (rowA 12 (setV s))] w
      (WPost w B hs ha K (stF hs ha K s P L L.length) (codeB hs ha K s P L) sv (.tuple #[])) := by
  obtain ⟨b, off, rfl, hb, hI⟩ := held_at hH hp.n1
  have hbB := hHB b off rfl
  have hn1 := hp.n1
  have hn40 := hp.n40
  have hP4 : P ≤ 4 := by have := hp.p4; omega
  have KL := hide (fun w sv (h : WrB w B hs ha K (fun _ => 0) [] sv) => loadParams_any B hs ha K (fun _ => 0) [] sv P s w h (by omega) (by simp))
  have KI := hide (fun w st C sv (h : WrB w B hs ha K st C sv) i (hi : i < L.length) hl => writeI_any B hs ha K st C sv (inAt L i) R L.length V w h hK hK' (hp.ins i hi) hp.r12 (hp.low i hi) hl)
  have KT := hide (fun w st sv (h : WrB w B hs ha K st (wTo hs ha K s P L L.length) sv) => setTargets_any B hs ha K st (wTo hs ha K s P L L.length) sv w h (wTo_pos hs ha K s P hn1 hp.last) (by have := wTo_len hs ha K s P L L.length; omega) (fun i hi => wTo_tg hs ha K s P hn40 hp.ins L.length (Nat.le_refl _) _ (inAt_mem hi)))
  have HLN := hide (wTo_len hs ha K s P L)
  have HSS := hide (stF_step hs ha K s P L)
  have HI := hide hI
  obtain ⟨w1, hw1, HP1, HC1, HL1⟩ := open_pr w P R V (.slice (some ⟨b, off, none⟩) L.length cap) 12 105 (setV s)
  have HW := hide hw1
  have hBw := h.lt
  have HB1 : Hid (WrB w1 B hs ha K (fun _ => 0) [] sv) := h.below (unhide HL1)
  have HS1 : Hid (WrStep B w sv w1 sv) := .below (unhide HL1)
  have HA1 : Hid (some w.heap.size ≠ sv.ownBlock) := h.apart (Nat.le_refl _)
  have hz1 : w.heap.size < w1.heap.size := (unhide HP1).lt
  have HX : Hid (∀ w', WrStep B w sv w' sv → True) := fun _ _ => trivial
  have HU : Hid (∀ (w' : World) (sv' : Value), WrStep B w sv w' sv' → LieI w' b off L) := fun w' sv' hst => hI.below (hst.under h) hbB
  clear hw1 h hp hI hH hHB HX
  go_enter Tryd.func69, Tryd.ntmps69
  go_upto_region 1 with fail
  rw [← unhide HW]
  have p0 := (unhide HP1).c0
  iterate 60 (first | (refine wpList_load_row rfl 105 _ rfl (w.heap.size + 1) rfl 105 _ (0, 0) _ (unhide HC1) Tryd.underlying105 rfl (by rw [rowA_size]; exact Tryd.size105) ?_; clear HC1) | go_values | go_skip | go_guarded | go_step | skip)
  refine (unhide KL w1 sv (unhide HB1)).mono ?_
  rintro e w2 ⟨rfl, sv2, hw2, hs2⟩
  have HB2 : Hid (WrB w2 B hs ha K (stF hs ha K s P L 0) (wTo hs ha K s P L 0) sv2) := hw2
  have HS2 : Hid (WrStep B w sv w2 sv2) := (unhide HS1).trans hs2
  have HP2 : Hid (ProgB w2 w.heap.size P R V (.slice (some ⟨b, off, none⟩) L.length cap)) := (hs2.block (unhide HP1).lt (by omega) (unhide HA1)).trans (unhide HP1)
  have HA2 : Hid (some w.heap.size ≠ sv2.ownBlock) := hs2.fresh _ hz1 (unhide HA1)
  clear hw2 hs2 HB1 HS1 HP1 HA1 HL1 p0 HW
  go_wp2_with fail
  go_loopw [6] (fun i' wr => ∃ k : Nat, k ≤ L.length ∧ i' = .int .i64 k ∧ ∃ sv', Hid (WrB wr B hs ha K (stF hs ha K s P L k) (wTo hs ha K s P L k) sv') ∧ Hid (WrStep B w sv wr sv') ∧ Hid (ProgB wr w.heap.size P R V (.slice (some ⟨b, off, none⟩) L.length cap)) ∧ Hid (some w.heap.size ≠ sv'.ownBlock)) (fun i' _ => L.length - (intOf i').toNat)
  case atStart => exact ⟨0, by omega, rfl, sv2, unhide HB2, unhide HS2, unhide HP2, unhide HA2⟩
  case round =>
    clear HB2 HS2 HP2 HA2
    obtain ⟨k, hk, rfl, sv', HB, HS, HP, HA⟩ := hrel
    have p3 := (unhide HP).c3
    by_cases hlt : k < L.length
    case neg =>
      have hkL : k = L.length := by omega
      subst hkL
      have KT' := hide (unhide KT wr _ sv' (unhide HB))
      clear HB KT
      go_wp2_with fail
      refine (unhide KT').mono ?_
      rintro e w4 ⟨rfl, sv4, hw4, hs4⟩
      have HQ : Hid (WPost w B hs ha K (stF hs ha K s P L L.length) (codeB hs ha K s P L) sv (.tuple #[]) (.returned (.tuple #[])) w4) := ⟨rfl, sv4, hw4, (unhide HS).trans hs4⟩
      clear hw4 hs4
      go_wp2_with fail
      go_returns
      exact unhide HQ
    have hki : (k : Int) < 40 := by omega
    have hki' : (k : Int) < L.length := by omega
    obtain ⟨ao', cap', rfl⟩ := (unhide HB).shape
    have c25 := (unhide HB).sv
    have hBf : ∀ o, wr.frozen? ⟨B, o, none⟩ = false := (unhide HB).row.free
    obtain ⟨old, hold⟩ : ∃ v, wr.cell? ⟨B, 26 + k, none⟩ = some v := ⟨_, (unhide HB).row.cell (by omega)⟩
    have hln := unhide HLN k
    obtain ⟨m, hm⟩ : ∃ m, m = (wTo hs ha K s P L k).length := ⟨_, rfl⟩
    have HM := hide hm
    rw [← hm] at c25 hln
    have hne : w.heap.size ≠ B := by omega
    have hkc : ∀ (wq : World) (z : Value), (wq.setCell ⟨B, 26 + k, none⟩ z).cell? ⟨B, 25, none⟩ = wq.cell? ⟨B, 25, none⟩ := fun wq z => World.cell?_setCell_other _ _ _ _ (fun e => by injection e with e1 e2; omega)
    clear hm
    go_upto_region 5 with fail
    go_region_held3 (fun w' => w'.cell? ⟨B, 25, none⟩ = some (.slice ao' m cap')) (first | (simp [*]; done) | assumption) (fail)
    obtain ⟨w4, hw4⟩ : ∃ w4, w4 = (wr.setCell ⟨B, 26 + k, none⟩ (.int .i64 (m : Int))).drew := ⟨_, rfl⟩
    rw [← hw4]
    obtain ⟨sv4, hsv4⟩ : ∃ v, v = Value.slice ao' (wTo hs ha K s P L k).length cap' := ⟨_, rfl⟩
    rw [← hsv4] at HB HS HA
    have HB4 : Hid (WrB w4 B hs ha K (stF hs ha K s P L (k + 1)) (wTo hs ha K s P L k) sv4) := by
      rw [hw4]; exact ((unhide HB).set_start (fun j => by rw [unhide HSS k j, unhide HM])).drew
    have hst4 : WrStep B wr sv4 w4 sv4 := by
      rw [hw4]; exact ⟨((Keep.refl (fun k => k = B ∨ some k = sv4.ownBlock) wr).setCell (p := ⟨B, 26 + k, none⟩) (.inl rfl) _).drew, fun _ _ h => h⟩
    have HS4 : Hid (WrStep B w sv w4 sv4) := (unhide HS).trans hst4
    have HP4 : Hid (ProgB w4 w.heap.size P R V (.slice (some ⟨b, off, none⟩) L.length cap)) := (hst4.block (unhide HP).lt hne (unhide HA)).trans (unhide HP)
    have hq4 := unhide HU w4 sv4 (unhide HS4) k hlt
    obtain ⟨q0, q1, q2, q3⟩ := hq4
    have p3' := (unhide HP4).c3
    have KI' := hide (unhide KI w4 _ _ sv4 (unhide HB4) k hlt (by rw [← unhide HM]; omega))
    clear hw4 hst4 hsv4 HB HS HP c25 hBf hold p3 hkc
    go_wp2_with fail
    refine (unhide KI').mono ?_
    rintro e w5 ⟨rfl, sv5, hw5, hs5⟩
    have HB5 : Hid (WrB w5 B hs ha K (stF hs ha K s P L (k + 1)) (wTo hs ha K s P L (k + 1)) sv5) := hw5
    have HS5 : Hid (WrStep B w sv w5 sv5) := (unhide HS4).trans hs5
    have HP5 : Hid (ProgB w5 w.heap.size P R V (.slice (some ⟨b, off, none⟩) L.length cap)) := (hs5.block (unhide HP4).lt hne (unhide HA)).trans (unhide HP4)
    have HA5 : Hid (some w.heap.size ≠ sv5.ownBlock) := hs5.fresh _ (unhide HP4).lt (unhide HA)
    clear hw5 hs5 q0 q1 q2 q3 p3' KI' HB4 HS4 HP4 HA
    go_wp2_with fail
    go_roundw
    case rel => exact ⟨k + 1, by omega, by go_num, sv5, unhide HB5, unhide HS5, unhide HP5, unhide HA5⟩
    case measure => simp [intOf]; omega
end Go.Proofs.YtoepcplbpochpaaDoor

/-
  What leb.numberBytes, leb.rangeBytes and leb.Encode answer.
-/
namespace Go.Proofs.YtoepcplbpochpaaDoor
open Go.RowKit

set_option maxHeartbeats 400000 in
theorem number_any (n0 : Int) (w : World) (h0 : 0 ≤ n0) (h1 : n0 ≤ 2097151) :
    Calls Tryd.prog 105 #[.int .i64 n0] w fun e w' => e = .returned (.string (numS n0)) ∧ Below w.heap.size w w' := by
  obtain ⟨i0, hi, hz0, hz1, hz2⟩ := info_parts Tryd.info5
  go_enter Tryd.func105, Tryd.ntmps105
  go_wp2
  go_loopw [0, 3] (fun n l wr => ∃ (m : Int) (xs : List Int), 0 ≤ m ∧ m ≤ 2097151 ∧ n = .int .i64 m ∧ xs ++ encI m = encI n0 ∧ wr.ownsRow w.heap.size 5 1 l xs.length (xs.map (Value.int .u8)) ∧ Below w.heap.size w wr) (fun n _ _ => (intOf n).toNat)
  case atStart => exact ⟨n0, [], h0, h1, rfl, rfl, World.ownsRow_nil _ _ _ _, Below.refl _ _⟩
  case round =>
    obtain ⟨m, xs, hm0, hm1, rfl, happ, hown, hbel⟩ := hrel
    have hx3 : (encI n0).length ≤ 3 := by unfold encI; split <;> (try split) <;> simp
    have hxl : xs.length ≤ 3 := by have := congrArg List.length happ; simp at this; omega
    have hB := hbel.size
    by_cases hm : 128 ≤ m
    · have hA : (xs ++ [m % 128 + 128]) ++ encI (m / 128) = encI n0 := by rw [← happ, enc_step hm hm1]; simp
      have HA := hide hA
      clear happ hA hx3
      go_wp2_with (at_builtin; refine wpList_append_own _ rfl _ _ 190 rfl w.heap.size 5 i0 (.int .u8 0) 1 1 Tryd.underlying190 hi hz0 hz1 hz2 rfl (by decide) _ _ _ rfl (hown.alloc _) ⟨wr.heap.size, 0, none⟩ 1 1 [.int .u8 (m % 128 + 128)] rfl rfl ?c1 ?c2 ?c3 ?c4 ?c5 ?_)
      case c1 => exact cell_one_new _ _ _
      case c2 => intro u hu; simp at hu; subst hu; rfl
      case c3 => unfold maxLen; omega
      case c4 => omega
      case c5 => first | omega | (simp; omega)
      intro v' w1 hown' hgrow _
      have hb1 : Below w.heap.size w w1 := (hbel.alloc hbel.size _).grown hgrow (by simp; omega) (own_ge hown)
      clear hgrow
      go_wp2
      go_roundw
      case rel => exact ⟨m / 128, xs ++ [m % 128 + 128], by omega, by omega, rfl, unhide HA, by simpa using hown', hb1⟩
      case measure => simp [intOf]; omega
    · have hA : xs ++ [m] = encI n0 := by rw [← happ, enc_one (by omega)]
      have HA := hide hA
      clear happ hA hx3
      go_wp2_with (at_builtin; refine wpList_append_own _ rfl _ _ 190 rfl w.heap.size 5 i0 (.int .u8 0) 1 1 Tryd.underlying190 hi hz0 hz1 hz2 rfl (by decide) _ _ _ rfl (hown.alloc _) ⟨wr.heap.size, 0, none⟩ 1 1 [.int .u8 m] rfl rfl ?d1 ?d2 ?d3 ?d4 ?d5 ?_)
      case d2 => first | rfl | simp
      case d3 => unfold maxLen; omega
      case d4 => omega
      case d5 => first | omega | (simp; omega)
      intro v' w1 hown' hgrow _
      have hb1 : Below w.heap.size w w1 := (hbel.alloc hbel.size _).grown hgrow (by simp; omega) (own_ge hown)
      have hcv := run_own_string (xs := xs ++ [m]) (n := xs.length + 1) (by simpa using hown') (by simp)
      clear hgrow
      go_wp2
      go_ret
      exact ⟨by unfold numS; rw [unhide HA]; rfl, hb1⟩

set_option maxRecDepth 100000 in
set_option maxHeartbeats 1000000 in
theorem rangeBytes_any (r : Rg) (w : World) (hr : isRg r = true) :
    Calls Tryd.prog 106 #[.agg #[.int .i64 r.v, .int .i64 r.f, .int .i64 r.t, .int .i64 r.k, .int .i64 r.a]] w fun e w' => e = .returned (.string (wrS (nums r))) ∧ Below w.heap.size w w' := by
  have hok := nums_ok hr
  have hb0 : 0 ≤ r.t - r.f ∧ r.t - r.f ≤ 65535 := hok 2 (by decide)
  obtain ⟨hb0, hb1⟩ := hb0
  have hb2 : 0 ≤ r.f ∧ r.f ≤ 65535 := hok 1 (by decide)
  obtain ⟨hb2, hb3⟩ := hb2
  go_enter Tryd.func106, Tryd.ntmps106
  go_wp2
  obtain ⟨W, hW, hcell, hsz, hBW⟩ : ∃ W, W = (w.alloc (.cells #[.int .i64 r.v, .int .i64 r.f, .int .i64 r.t, .int .i64 r.k, .int .i64 r.a] 132)).alloc (.cells #[.int .i64 r.v, .int .i64 r.f, .int .i64 (r.t - r.f), .int .i64 r.k, .int .i64 r.a] 174) ∧
      (∀ i, i < 5 → W.cell? ⟨w.heap.size + 1, i, none⟩ = some (.int .i64 (nth (nums r) i))) ∧ W.heap.size = w.heap.size + 2 ∧ Below w.heap.size w W := by
    refine ⟨_, rfl, ?_, by simp, ((Below.refl _ _).alloc (Nat.le_refl _) _).alloc (by simp) _⟩
    intro i hi
    rw [World.cell?_alloc_at (hn := by simp)]
    match i, hi with
    | 0, _ => rfl
    | 1, _ => rfl
    | 2, _ => rfl
    | 3, _ => rfl
    | 4, _ => rfl
  rw [← hW]
  have HZ := hide hsz
  clear hW hsz
  go_loopw [4, 5] (fun s i wr => ∃ k : Nat, k ≤ 5 ∧ i = .int .i64 k ∧ s = .string (wrS ((nums r).take k)) ∧ Below (w.heap.size + 2) W wr) (fun _ i _ => 5 - (intOf i).toNat)
  case atStart => exact ⟨0, Nat.zero_le _, rfl, rfl, Below.refl _ _⟩
  case round =>
    obtain ⟨k, hk, rfl, rfl, hbel⟩ := hrel
    by_cases hlt : k < 5
    · have hc := (hbel.cell (p := ⟨w.heap.size + 1, k, none⟩) (by simp)).trans (hcell k hlt)
      obtain ⟨r0, r1⟩ := hok k hlt
      have P := hide (fun w => number_any (nth (nums r) k) w r0 (by omega))
      have hs1 : (wrS ((nums r).take k)).size ≤ 300000 := by have := wrS_size_le ((nums r).take k); rw [List.length_take] at this; omega
      have hs2 : (numS (nth (nums r) k)).size ≤ 3 := by have := encB_le (nth (nums r) k); rw [Lib.size_eq, numS_data]; exact this
      have HS := hide (take_nth (nums r) k hlt)
      go_wp2_with fail
      refine (unhide P _).mono ?_
      rintro e w1 ⟨rfl, hb1⟩
      go_wp2
      go_roundw
      case rel => exact ⟨k + 1, by omega, by go_num, by rw [wrS_snoc, unhide HS], hbel.trans (hb1.mono (by have := hbel.size; rw [unhide HZ] at this; exact this))⟩
      case measure => simp [intOf]; omega
    · have hk5 : k = 5 := by omega
      have e := hide (show (nums r).take k = nums r by rw [hk5]; rfl)
      clear hk5
      go_wp2
      go_ret
      exact ⟨ret_str (by rw [unhide e]), hBW.trans (hbel.mono (by omega))⟩
set_option maxRecDepth 100000 in
set_option maxHeartbeats 1000000 in
theorem encode_any (R : List Rg) (ao : Option Addr) (cap : Nat) (w : World) (hH : Held w ao R) (hlen : R.length ≤ 9223372036854775807) :
    Calls Tryd.prog 71 #[.slice ao R.length cap] w fun e w' => e = .returned (encV R) ∧ Below w.heap.size w w' := by
  have T := hide (fun w (h : Held w ao R) => isTable_any R ao cap w h hlen)
  cases ht : isTab R
  · rw [encV_no ht]
    rw [ht] at T
    clear ht
    go_enter Tryd.func71, Tryd.ntmps71
    go_wp2_with fail
    refine (unhide T _ hH).mono ?_
    rintro e w1 ⟨rfl, hb1⟩
    go_wp2
    go_ret2
    exact ⟨rfl, hb1⟩
  · rw [encV_yes ht]
    rw [ht] at T
    have HT := hide ht
    have h200 := isTab_len ht
    have N := hide (fun w => number_any (R.length : Int) w (by omega) (by omega))
    clear ht
    go_enter Tryd.func71, Tryd.ntmps71
    go_wp2_with fail
    refine (unhide T _ hH).mono ?_
    rintro e w1 ⟨rfl, hb1⟩
    go_wp2_with fail
    refine (unhide N _).mono ?_
    rintro e w2 ⟨rfl, hb2⟩
    have hB := hb1.trans (hb2.mono hb1.size)
    clear hb1 hb2
    go_wp2_with fail
    go_loopw [4, 5] (fun s i wr => ∃ k : Nat, k ≤ R.length ∧ i = .int .i64 k ∧ s = .string (wrS (flatTo R k)) ∧ Below w.heap.size w wr) (fun _ i _ => R.length - (intOf i).toNat)
    case atStart => exact ⟨0, Nat.zero_le _, rfl, by rw [numS_wr]; unfold flatTo; simp, hB⟩
    case round =>
      obtain ⟨k, hk, rfl, rfl, hbel⟩ := hrel
      have hs1 : (wrS (flatTo R k)).size ≤ 300000 := by have := wrS_size_le (flatTo R k); have := flatTo_len R k; omega
      by_cases hlt : k < R.length
      · have hrg := isTab_rg (unhide HT) hlt
        have P := hide (fun w => rangeBytes_any (rg R k) w hrg)
        have hs2 : (wrS (nums (rg R k))).size ≤ 15 := wrS_size_le _
        have HS := hide (flatTo_succ R k hlt)
        obtain ⟨b, off, rfl, hb, hl⟩ : ∃ b off, ao = some ⟨b, off, none⟩ ∧ b < w.heap.size ∧ Lie w b off R := by
          rcases hH with h | h
          · subst h; exact absurd hlt (by simp)
          · exact h
        obtain ⟨c0, c1, c2, c3, c4⟩ := (hl k hlt).below hbel hb
        clear hrg
        go_wp2_with fail
        refine (unhide P _).mono ?_
        rintro e w1 ⟨rfl, hb1⟩
        go_wp2
        go_roundw
        case rel => exact ⟨k + 1, by omega, by go_num, by rw [wrS_app, unhide HS], hbel.trans (hb1.mono hbel.size)⟩
        case measure => simp [intOf]; omega
      · have hk' : k = R.length := by omega
        have e := hide (show flatTo R k = flat R by rw [hk', flatTo_end])
        clear hk'
        go_wp2
        go_ret2
        exact ⟨ret_str2 (by rw [unhide e]; rfl), hbel⟩
end Go.Proofs.YtoepcplbpochpaaDoor

/-
  A writer that was built.
-/
namespace Go.Proofs.YtoepcplbpochpaaDoor
open Go.RowKit

set_option maxRecDepth 100000 in
theorem built117 (hs : Nat → Bool) (ha : Nat → Nat) (K : Nat) : Tryd.prog.built 117 [(0, .agg (rowA 24 (homV hs ha))), (1, .int .i64 K)] = some (rowA 66 (wrV hs ha K (.slice none 0 0) (fun _ => 0))) := by kernel_rfl
end Go.Proofs.YtoepcplbpochpaaDoor
