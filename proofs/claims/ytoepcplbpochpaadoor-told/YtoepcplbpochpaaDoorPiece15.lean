/-
  What leb.isTable answers, of every list of ranges.
-/
import Derived.Test.YtoepcplbpochpaaDoorPiece12
import Derived.Deep.RegionHeld3
import Derived.Deep.QuietTactic
import Derived.BigQuiet
import Derived.Test.YtoepcplbpochpaaDoorPiece11
import Derived.Lib.Strings
import Derived.Test.YtoepcplbpochpaaDoorPiece14

namespace Go.Proofs.YtoepcplbpochpaaDoor
open Go.RowKit

/-- The i-th range of a list. -/
def rg (R : List Rg) (i : Nat) : Rg := R.getD i ⟨0, 0, 0, 0, 0⟩
/-- The five cells of a range lie at an address. -/
def AtR5 (w : World) (b o : Nat) (r : Rg) : Prop :=
  w.cell? ⟨b, o, none⟩ = some (.int .i64 r.v) ∧ w.cell? ⟨b, o + 1, none⟩ = some (.int .i64 r.f) ∧ w.cell? ⟨b, o + 2, none⟩ = some (.int .i64 r.t) ∧ w.cell? ⟨b, o + 3, none⟩ = some (.int .i64 r.k) ∧ w.cell? ⟨b, o + 4, none⟩ = some (.int .i64 r.a)
/-- A list of ranges lies at an address. -/
def Lie (w : World) (b off : Nat) (R : List Rg) : Prop := ∀ i, i < R.length → AtR5 w b (off + i * 5) (rg R i)

theorem AtR5.below {w w' : World} {B b o : Nat} {r : Rg} (h : AtR5 w b o r) (hb : Below B w w') (hB : b < B) : AtR5 w' b o r :=
  ⟨(hb.cell hB).trans h.1, (hb.cell hB).trans h.2.1, (hb.cell hB).trans h.2.2.1, (hb.cell hB).trans h.2.2.2.1, (hb.cell hB).trans h.2.2.2.2⟩
theorem Lie.below {w w' : World} {B b off : Nat} {R : List Rg} (h : Lie w b off R) (hb : Below B w w') (hB : b < B) : Lie w' b off R :=
  fun i hi => (h i hi).below hb hB

/-- Is the list a table as far as its first k ranges? -/
def tabTo (R : List Rg) (k : Nat) : Bool := (List.range k).all fun i => isRg (rg R i) && (decide (i = 0) || follows (rg R (i - 1)) (rg R i))
def isTab (R : List Rg) : Bool := decide (R.length ≤ 200) && tabTo R R.length

theorem tabTo_succ (R : List Rg) (k : Nat) : tabTo R (k + 1) = (tabTo R k && (isRg (rg R k) && (decide (k = 0) || follows (rg R (k - 1)) (rg R k)))) := by
  unfold tabTo; rw [List.range_succ, List.all_append]; simp
theorem tabTo_mono (R : List Rg) {k n : Nat} (h : k ≤ n) (hn : tabTo R n = true) : tabTo R k = true := by
  unfold tabTo at *; rw [List.all_eq_true] at *; intro i hi; rw [List.mem_range] at hi; exact hn i (by rw [List.mem_range]; omega)

set_option maxRecDepth 100000 in
set_option maxHeartbeats 1000000 in
theorem isTable_some (R : List Rg) (b off cap : Nat) (w : World) (hL : Lie w b off R) (hb : b < w.heap.size) (hlen : R.length ≤ 9223372036854775807) :
    Calls Tryd.prog 90 #[.slice (some ⟨b, off, none⟩) R.length cap] w fun e w' => e = .returned (.bool (isTab R)) ∧ Below w.heap.size w w' := by
  by_cases h200 : R.length ≤ 200
  case neg =>
    have e : isTab R = false := by simp [isTab, h200]
    rw [e]
    go_enter Tryd.func90, Tryd.ntmps90
    go_wp2
    go_ret
    exact ⟨rfl, Below.refl _ _⟩
  have e : isTab R = tabTo R R.length := by simp [isTab, h200]
  rw [e]
  clear e
  go_enter Tryd.func90, Tryd.ntmps90
  go_wp2
  go_loopw [3] (fun i wr => ∃ k : Nat, k ≤ R.length ∧ i = .int .i64 k ∧ tabTo R k = true ∧ Below w.heap.size w wr) (fun i _ => R.length - (intOf i).toNat)
  case atStart => exact ⟨0, Nat.zero_le _, rfl, rfl, Below.refl _ _⟩
  case round =>
    obtain ⟨k, hk, rfl, htab, hbel⟩ := hrel
    have HT := hide htab
    clear htab
    by_cases hlt : k < R.length
    · have C1 := hide (fun w => isRange_any (rg R k) w)
      have hc := hide ((hL k hlt).below hbel hb)
      cases hr : isRg (rg R k)
      · have hf : tabTo R R.length = false := by
          cases h : tabTo R R.length
          · rfl
          · have := tabTo_mono R (show k + 1 ≤ R.length by omega) h
            rw [tabTo_succ, hr] at this; simp at this
        have HF := hide hf
        rw [hr] at C1
        obtain ⟨c0, c1, c2, c3, c4⟩ := unhide hc
        clear hr hf hc
        go_wp2_with fail
        refine (unhide C1 _).mono ?_
        rintro e w1 ⟨rfl, hb1⟩
        go_wp2
        go_ret
        exact ⟨ret_bool (unhide HF).symm, hbel.trans (hb1.mono hbel.size)⟩
      · rw [hr] at C1
        have HR := hide hr
        clear hr
        obtain ⟨c0, c1, c2, c3, c4⟩ := unhide hc
        clear hc
        by_cases h0 : 0 < k
        case neg =>
          have hn : tabTo R (k + 1) = true := by rw [tabTo_succ, unhide HT, unhide HR]; simp; omega
          have HN := hide hn
          have hg : decide ((0 : Int) < (k : Int)) = false := by simp; omega
          clear hn
          go_wp2_with fail
          refine (unhide C1 _).mono ?_
          rintro e w1 ⟨rfl, hb1⟩
          go_wp2_with fail
          go_quiet (fail)
          go_wp2
          go_roundw
          case rel => exact ⟨k + 1, by omega, by go_num, unhide HN, below_drewN (hbel.trans (hb1.mono hbel.size)) _⟩
          case measure => simp [intOf]; omega
        have C2 := hide (fun w => mayFollow_any (rg R (k - 1)) (rg R k) w)
        cases hf : follows (rg R (k - 1)) (rg R k)
        · rw [hf] at C2
          have hn : tabTo R R.length = false := by
            cases h : tabTo R R.length
            · rfl
            · have := tabTo_mono R (show k + 1 ≤ R.length by omega) h
              rw [tabTo_succ, hf] at this; simp at this; omega
          have HN := hide hn
          clear hn hf
          go_wp2_with fail
          refine (unhide C1 _).mono ?_
          rintro e w1 ⟨rfl, hb1⟩
          have hb2 := hbel.trans (hb1.mono hbel.size)
          obtain ⟨d0, d1, d2, d3, d4⟩ := (hL k hlt).below hb2 hb
          obtain ⟨p0, p1, p2, p3, p4⟩ := (hL (k - 1) (by omega)).below hb2 hb
          go_wp2_with fail
          have i1 : (0 : Int) ≤ (k : Int) - 1 := by omega
          have i2 : (k : Int) - 1 < (R.length : Int) := by omega
          have i3 : (k : Int) < (R.length : Int) := by omega
          have i4 : decide ((0 : Int) < (k : Int)) = true := by simp; omega
          have i6 : (1 : Int) ≤ (k : Int) := by omega
          have i7 : 1 ≤ k := by omega
          have i5 : IntKind.i64.wrap ((k : Int) - 1) = (k : Int) - 1 := by rw [IntKind.wrap_i64]; omega
          go_region_held3 (fun w' => (w'.cell? ⟨b, off + k * 5, none⟩ = some (.int .i64 (rg R k).v) ∧ w'.cell? ⟨b, off + k * 5 + 1, none⟩ = some (.int .i64 (rg R k).f) ∧ w'.cell? ⟨b, off + k * 5 + 2, none⟩ = some (.int .i64 (rg R k).t) ∧ w'.cell? ⟨b, off + k * 5 + 3, none⟩ = some (.int .i64 (rg R k).k) ∧ w'.cell? ⟨b, off + k * 5 + 4, none⟩ = some (.int .i64 (rg R k).a)) ∧
            w'.cell? ⟨b, off + (k - 1) * 5, none⟩ = some (.int .i64 (rg R (k - 1)).v) ∧ w'.cell? ⟨b, off + (k - 1) * 5 + 1, none⟩ = some (.int .i64 (rg R (k - 1)).f) ∧ w'.cell? ⟨b, off + (k - 1) * 5 + 2, none⟩ = some (.int .i64 (rg R (k - 1)).t) ∧ w'.cell? ⟨b, off + (k - 1) * 5 + 3, none⟩ = some (.int .i64 (rg R (k - 1)).k) ∧ w'.cell? ⟨b, off + (k - 1) * 5 + 4, none⟩ = some (.int .i64 (rg R (k - 1)).a)) (simp [*])
            (first | (go_at_call 115; refine (unhide C2 _).mono ?_; rintro e w2 ⟨rfl, hb3⟩; have hb4 := (hb2.drew).trans (hb3.mono (by simpa using hb2.size)); obtain ⟨q0, q1, q2, q3, q4⟩ := (hL k hlt).below hb4 hb; obtain ⟨s0, s1, s2, s3, s4⟩ := (hL (k - 1) (by omega)).below hb4 hb))
          go_wp2
          go_ret
          exact ⟨ret_bool (unhide HN).symm, by assumption⟩
        · rw [hf] at C2
          have hn : tabTo R (k + 1) = true := by rw [tabTo_succ, unhide HT, unhide HR, hf]; simp
          have HN := hide hn
          clear hn hf
          go_wp2_with fail
          refine (unhide C1 _).mono ?_
          rintro e w1 ⟨rfl, hb1⟩
          have hb2 := hbel.trans (hb1.mono hbel.size)
          obtain ⟨d0, d1, d2, d3, d4⟩ := (hL k hlt).below hb2 hb
          obtain ⟨p0, p1, p2, p3, p4⟩ := (hL (k - 1) (by omega)).below hb2 hb
          go_wp2_with fail
          have i1 : (0 : Int) ≤ (k : Int) - 1 := by omega
          have i2 : (k : Int) - 1 < (R.length : Int) := by omega
          have i3 : (k : Int) < (R.length : Int) := by omega
          have i4 : decide ((0 : Int) < (k : Int)) = true := by simp; omega
          have i6 : (1 : Int) ≤ (k : Int) := by omega
          have i7 : 1 ≤ k := by omega
          have i5 : IntKind.i64.wrap ((k : Int) - 1) = (k : Int) - 1 := by rw [IntKind.wrap_i64]; omega
          go_region_held3 (fun w' => (w'.cell? ⟨b, off + k * 5, none⟩ = some (.int .i64 (rg R k).v) ∧ w'.cell? ⟨b, off + k * 5 + 1, none⟩ = some (.int .i64 (rg R k).f) ∧ w'.cell? ⟨b, off + k * 5 + 2, none⟩ = some (.int .i64 (rg R k).t) ∧ w'.cell? ⟨b, off + k * 5 + 3, none⟩ = some (.int .i64 (rg R k).k) ∧ w'.cell? ⟨b, off + k * 5 + 4, none⟩ = some (.int .i64 (rg R k).a)) ∧
            w'.cell? ⟨b, off + (k - 1) * 5, none⟩ = some (.int .i64 (rg R (k - 1)).v) ∧ w'.cell? ⟨b, off + (k - 1) * 5 + 1, none⟩ = some (.int .i64 (rg R (k - 1)).f) ∧ w'.cell? ⟨b, off + (k - 1) * 5 + 2, none⟩ = some (.int .i64 (rg R (k - 1)).t) ∧ w'.cell? ⟨b, off + (k - 1) * 5 + 3, none⟩ = some (.int .i64 (rg R (k - 1)).k) ∧ w'.cell? ⟨b, off + (k - 1) * 5 + 4, none⟩ = some (.int .i64 (rg R (k - 1)).a)) (simp [*])
            (first | (go_at_call 115; refine (unhide C2 _).mono ?_; rintro e w2 ⟨rfl, hb3⟩; have hb4 := (hb2.drew).trans (hb3.mono (by simpa using hb2.size)); obtain ⟨q0, q1, q2, q3, q4⟩ := (hL k hlt).below hb4 hb; obtain ⟨s0, s1, s2, s3, s4⟩ := (hL (k - 1) (by omega)).below hb4 hb))
          go_wp2
          go_roundw
          case rel => exact ⟨k + 1, by omega, by go_num, unhide HN, by assumption⟩
          case measure => simp [intOf]; omega
    · have : k = R.length := by omega
      subst this
      go_wp2
      go_ret
      exact ⟨ret_bool (unhide HT).symm, hbel⟩

theorem isTable_nil (ao : Option Addr) (cap : Nat) (w : World) :
    Calls Tryd.prog 90 #[.slice ao 0 cap] w fun e w' => e = .returned (.bool (isTab [])) ∧ Below w.heap.size w w' := by
  go_enter Tryd.func90, Tryd.ntmps90
  go_wp2
  refine wp_loop_rounds 1 ?_; rw [rounds_succ]
  go_wp2
  go_ret
  exact ⟨rfl, Below.refl _ _⟩

/-- A slice that holds a list of ranges: nothing is asked of its address where the list is empty. -/
def Held (w : World) (ao : Option Addr) (R : List Rg) : Prop := R = [] ∨ ∃ b off, ao = some ⟨b, off, none⟩ ∧ b < w.heap.size ∧ Lie w b off R

theorem Held.below {w w' : World} {ao : Option Addr} {R : List Rg} (h : Held w ao R) (hb : Below w.heap.size w w') : Held w' ao R := by
  rcases h with h | ⟨b, off, h, hlt, hl⟩
  · exact .inl h
  · exact .inr ⟨b, off, h, Nat.lt_of_lt_of_le hlt hb.size, hl.below hb hlt⟩

theorem isTable_any (R : List Rg) (ao : Option Addr) (cap : Nat) (w : World) (hL : Held w ao R) (hlen : R.length ≤ 9223372036854775807) :
    Calls Tryd.prog 90 #[.slice ao R.length cap] w fun e w' => e = .returned (.bool (isTab R)) ∧ Below w.heap.size w w' := by
  rcases hL with rfl | ⟨b, off, rfl, hb, hL⟩
  · exact isTable_nil ao cap w
  · exact isTable_some R b off cap w hL hb hlen
end Go.Proofs.YtoepcplbpochpaaDoor

/-
  Plain mathematics: when the bytes of a number are a piece of a string. No Go here.
-/
namespace Go.Proofs.YtoepcplbpochpaaDoor

theorem numS_toList (n : Int) : (numS n).toList = (encI n).map fun m => UInt8.ofNat m.toNat := by
  rw [ByteArray.toList_eq]; rfl

theorem byte_eq {x : Int} {a : UInt8} (h0 : 0 ≤ x) (h1 : x < 256) : UInt8.ofNat x.toNat = a ↔ x = (a.toNat : Int) := by
  constructor
  · intro h
    have := congrArg UInt8.toNat h
    rw [UInt8.toNat_ofNat', Nat.mod_eq_of_lt (by omega)] at this
    omega
  · intro h
    apply UInt8.toNat_inj.1
    rw [UInt8.toNat_ofNat', Nat.mod_eq_of_lt (by omega)]
    omega

theorem byte_lt (a : UInt8) : (a.toNat : Int) < 256 := by have := a.toNat_lt; omega

theorem test1_iff (a : UInt8) (m : Int) (hm : m = (a.toNat : Int) % 128) : (encI m).map (fun m => UInt8.ofNat m.toNat) = [a] ↔ (a.toNat : Int) < 128 := by
  have := byte_lt a
  rw [enc_one (by omega), List.map_cons, List.map_nil, List.cons.injEq, byte_eq (by omega) (by omega)]
  simp only [and_true]
  omega

theorem test2_iff (a b : UInt8) (m : Int) (hm : m = (a.toNat : Int) % 128 + 128 * ((b.toNat : Int) % 128)) :
    (encI m).map (fun m => UInt8.ofNat m.toNat) = [a, b] ↔ 128 ≤ (a.toNat : Int) ∧ (b.toNat : Int) < 128 ∧ (b.toNat : Int) ≠ 0 := by
  have := byte_lt a
  have := byte_lt b
  by_cases h : m < 128
  · rw [enc_one h]; simp only [List.map_cons, List.map_nil, List.cons.injEq, reduceCtorEq, and_false, false_iff]; omega
  · rw [enc_two h (by omega), List.map_cons, List.map_cons, List.map_nil, List.cons.injEq, List.cons.injEq, byte_eq (by omega) (by omega), byte_eq (by omega) (by omega)]
    simp only [and_true]
    omega

theorem test3_iff (a b c : UInt8) (m : Int) (hm : m = (a.toNat : Int) % 128 + 128 * ((b.toNat : Int) % 128) + 128 * (128 * ((c.toNat : Int) % 128))) :
    (encI m).map (fun m => UInt8.ofNat m.toNat) = [a, b, c] ↔ 128 ≤ (a.toNat : Int) ∧ 128 ≤ (b.toNat : Int) ∧ (c.toNat : Int) < 128 ∧ (c.toNat : Int) ≠ 0 := by
  have := byte_lt a
  have := byte_lt b
  have := byte_lt c
  by_cases h : m < 128
  · rw [enc_one h]; simp only [List.map_cons, List.map_nil, List.cons.injEq, reduceCtorEq, and_false, false_iff]; omega
  by_cases h' : m < 16384
  · rw [enc_two h h']; simp only [List.map_cons, List.map_nil, List.cons.injEq, reduceCtorEq, and_false, false_iff]; omega
  · rw [enc_three h', List.map_cons, List.map_cons, List.map_cons, List.map_nil, List.cons.injEq, List.cons.injEq, List.cons.injEq, byte_eq (by omega) (by omega), byte_eq (by omega) (by omega), byte_eq (by omega) (by omega)]
    simp only [and_true]
    omega

section
variable {s : ByteArray} {k : Nat}
theorem ext1 (h : k < s.size) : (s.extract k (k + 1)).toList = [s[k]] := by
  rw [Lib.extract_toList, drop_cons h, show k + 1 - k = 1 by omega]; rfl
theorem ext2 (h : k + 1 < s.size) : (s.extract k (k + 1 + 1)).toList = [s[k], s[k + 1]] := by
  rw [Lib.extract_toList, drop_two h, show k + 1 + 1 - k = 2 by omega]; rfl
theorem ext3 (h : k + 1 + 1 < s.size) : (s.extract k (k + 1 + 1 + 1)).toList = [s[k], s[k + 1], s[k + 1 + 1]] := by
  rw [Lib.extract_toList, drop_three h, show k + 1 + 1 + 1 - k = 3 by omega]; rfl

theorem beq_of {x y : List UInt8} {p : Prop} (h : x = y ↔ p) (hp : p) : (x == y) = true := by simpa using h.2 hp
theorem beq_not {x y : List UInt8} {p : Prop} (h : x = y ↔ p) (hp : ¬ p) : (x == y) = false := by simpa using fun e => hp (h.1 e)

theorem t1_yes (h : k < s.size) (a : ((s[k]).toNat : Int) < 128) : ((numS (((s[k]).toNat : Int) % 128)).toList == (s.extract k (k + 1)).toList) = true := by
  rw [numS_toList, ext1 h]; exact beq_of (test1_iff _ _ rfl) a
theorem t1_no (h : k < s.size) (a : ¬ ((s[k]).toNat : Int) < 128) : ((numS (((s[k]).toNat : Int) % 128)).toList == (s.extract k (k + 1)).toList) = false := by
  rw [numS_toList, ext1 h]; exact beq_not (test1_iff _ _ rfl) a
theorem t2_yes (h : k + 1 < s.size) (p : 128 ≤ ((s[k]).toNat : Int) ∧ ((s[k + 1]).toNat : Int) < 128 ∧ ((s[k + 1]).toNat : Int) ≠ 0) :
    ((numS (((s[k]).toNat : Int) % 128 + 128 * (((s[k + 1]).toNat : Int) % 128))).toList == (s.extract k (k + 1 + 1)).toList) = true := by
  rw [numS_toList, ext2 h]; exact beq_of (test2_iff _ _ _ rfl) p
theorem t2_no (h : k + 1 < s.size) (p : ¬ (128 ≤ ((s[k]).toNat : Int) ∧ ((s[k + 1]).toNat : Int) < 128 ∧ ((s[k + 1]).toNat : Int) ≠ 0)) :
    ((numS (((s[k]).toNat : Int) % 128 + 128 * (((s[k + 1]).toNat : Int) % 128))).toList == (s.extract k (k + 1 + 1)).toList) = false := by
  rw [numS_toList, ext2 h]; exact beq_not (test2_iff _ _ _ rfl) p
theorem t3_yes (h : k + 1 + 1 < s.size) (p : 128 ≤ ((s[k]).toNat : Int) ∧ 128 ≤ ((s[k + 1]).toNat : Int) ∧ ((s[k + 1 + 1]).toNat : Int) < 128 ∧ ((s[k + 1 + 1]).toNat : Int) ≠ 0) :
    ((numS (((s[k]).toNat : Int) % 128 + 128 * (((s[k + 1]).toNat : Int) % 128) + 128 * (128 * (((s[k + 1 + 1]).toNat : Int) % 128)))).toList == (s.extract k (k + 1 + 1 + 1)).toList) = true := by
  rw [numS_toList, ext3 h]; exact beq_of (test3_iff _ _ _ _ rfl) p
theorem t3_no (h : k + 1 + 1 < s.size) (p : ¬ (128 ≤ ((s[k]).toNat : Int) ∧ 128 ≤ ((s[k + 1]).toNat : Int) ∧ ((s[k + 1 + 1]).toNat : Int) < 128 ∧ ((s[k + 1 + 1]).toNat : Int) ≠ 0)) :
    ((numS (((s[k]).toNat : Int) % 128 + 128 * (((s[k + 1]).toNat : Int) % 128) + 128 * (128 * (((s[k + 1 + 1]).toNat : Int) % 128)))).toList == (s.extract k (k + 1 + 1 + 1)).toList) = false := by
  rw [numS_toList, ext3 h]; exact beq_not (test3_iff _ _ _ _ rfl) p
end
end Go.Proofs.YtoepcplbpochpaaDoor

/-
  Plain mathematics: a number's bytes are read as that number, whatever stands behind them; cut short, or drawn out by a byte of nought, they are none. No Go here.
-/
namespace Go.Proofs.YtoepcplbpochpaaDoor

/-- A number's bytes. -/
def encB (n : Int) : List UInt8 := (encI n).map fun m => UInt8.ofNat m.toNat

theorem numS_data (n : Int) : (numS n).data.toList = encB n := rfl
theorem numS_size (n : Int) : (numS n).size = (encI n).length := strOfNums_size _

theorem toNat_of {x : Int} (h0 : 0 ≤ x) (h1 : x < 256) : ((UInt8.ofNat x.toNat).toNat : Int) = x := by
  rw [UInt8.toNat_ofNat', Nat.mod_eq_of_lt (by omega)]; omega

theorem encB_one {n : Int} (h : n < 128) : encB n = [UInt8.ofNat n.toNat] := by unfold encB; rw [enc_one h]; rfl
theorem encB_two {n : Int} (h : ¬ n < 128) (h' : n < 16384) : encB n = [UInt8.ofNat (n % 128 + 128).toNat, UInt8.ofNat (n / 128).toNat] := by unfold encB; rw [enc_two h h']; rfl
theorem encB_three {n : Int} (h' : ¬ n < 16384) : encB n = [UInt8.ofNat (n % 128 + 128).toNat, UInt8.ofNat (n / 128 % 128 + 128).toNat, UInt8.ofNat (n / 16384).toNat] := by unfold encB; rw [enc_three h']; rfl

theorem get_enc {n : Int} (h0 : 0 ≤ n) (h1 : n ≤ 2097151) (r : List UInt8) : getL (encB n ++ r) = some (n, (encI n).length) := by
  by_cases a : n < 128
  · rw [encB_one a, enc_one a]
    have e := toNat_of h0 (by omega : n < 256)
    rw [List.cons_append, getL_a _ (by omega), e]; rfl
  by_cases b : n < 16384
  · rw [encB_two a b, enc_two a b]
    have e1 := toNat_of (x := n % 128 + 128) (by omega) (by omega)
    have e2 := toNat_of (x := n / 128) (by omega) (by omega)
    rw [List.cons_append, List.cons_append, getL_b _ (by omega) (by omega) (by omega), e1, e2]
    simp only [List.length_cons, List.length_nil, Option.some.injEq, Prod.mk.injEq, and_true]
    omega
  · rw [encB_three b, enc_three b]
    have e1 := toNat_of (x := n % 128 + 128) (by omega) (by omega)
    have e2 := toNat_of (x := n / 128 % 128 + 128) (by omega) (by omega)
    have e3 := toNat_of (x := n / 16384) (by omega) (by omega)
    rw [List.cons_append, List.cons_append, List.cons_append, getL_c _ (by omega) (by omega) (by omega) (by omega), e1, e2, e3]
    simp only [List.length_cons, List.length_nil, Option.some.injEq, Prod.mk.injEq, and_true]
    omega

theorem enc_len (n : Int) : (encI n).length = if n < 128 then 1 else if n < 16384 then 2 else 3 := by
  unfold encI; split
  · rfl
  · split <;> rfl

/-- Bytes that all bear the mark 'more follows' are no number. -/
theorem get_open : ∀ l : List UInt8, (∀ a ∈ l, ¬ (a.toNat : Int) < 128) → getL l = none
  | [], _ => rfl
  | [a], h => getL_a_end (h a (by simp))
  | [a, b], h => getL_b_end (h a (by simp)) (h b (by simp))
  | a :: b :: c :: r, h => getL_c_no r (h a (by simp)) (h b (by simp)) (h c (by simp))

/-- The bytes that lead a nought must bear the mark: then it is no number. -/
theorem get_drawn : ∀ l : List UInt8, l ≠ [] → (∀ a ∈ l, ¬ (a.toNat : Int) < 128) → getL (l ++ [0]) = none
  | [], h, _ => absurd rfl h
  | [a], _, h => getL_b_zero [] (h a (by simp)) rfl
  | [a, b], _, h => getL_c_zero [] (h a (by simp)) (h b (by simp)) rfl
  | a :: b :: c :: r, _, h => getL_c_no (r ++ [0]) (h a (by simp)) (h b (by simp)) (h c (by simp))

/-- All bytes but the last. -/
theorem enc_front (n : Int) : ∀ a ∈ (encB n).dropLast, ¬ (a.toNat : Int) < 128 := by
  by_cases a : n < 128
  · rw [encB_one a]; simp
  by_cases b : n < 16384
  · rw [encB_two a b]
    have e1 := toNat_of (x := n % 128 + 128) (by omega) (by omega)
    intro x hx; simp only [List.dropLast_cons_cons, List.dropLast_singleton, List.mem_singleton] at hx; subst hx; omega
  · rw [encB_three b]
    have e1 := toNat_of (x := n % 128 + 128) (by omega) (by omega)
    have e2 := toNat_of (x := n / 128 % 128 + 128) (by omega) (by omega)
    intro x hx; simp only [List.dropLast_cons_cons, List.dropLast_singleton, List.mem_cons, List.not_mem_nil, or_false] at hx
    rcases hx with rfl | rfl <;> omega

/-- The last byte. -/
theorem enc_last {n : Int} (h0 : 0 ≤ n) (h1 : n ≤ 2097151) : ∃ x : UInt8, (encB n).dropLast ++ [x] = encB n ∧ (x.toNat : Int) < 128 := by
  by_cases a : n < 128
  · rw [encB_one a]; exact ⟨_, rfl, by rw [toNat_of (by omega) (by omega)]; omega⟩
  by_cases b : n < 16384
  · rw [encB_two a b]; exact ⟨_, rfl, by rw [toNat_of (by omega) (by omega)]; omega⟩
  · rw [encB_three b]; exact ⟨_, rfl, by rw [toNat_of (by omega) (by omega)]; omega⟩

end Go.Proofs.YtoepcplbpochpaaDoor

/-
  Plain mathematics: what is read is what was written, and in one way alone. No Go here.
-/
namespace Go.Proofs.YtoepcplbpochpaaDoor

/-- Numbers that can be written. -/
def Fine (x : Int) : Prop := 0 ≤ x ∧ x ≤ 2097151

theorem getL_sound : ∀ (l : List UInt8) (x : Int) (j : Nat), getL l = some (x, j) → Fine x ∧ l = encB x ++ l.drop j ∧ j = (encB x).length := by
  intro l x j h
  cases l with
  | nil => rw [getL_nil] at h; cases h
  | cons a r =>
    have ba := byte_lt a
    rw [getL_cons] at h
    by_cases ha : (a.toNat : Int) < 128
    · rw [if_pos ha] at h
      obtain ⟨rfl, rfl⟩ := Prod.mk.inj (Option.some.inj h)
      have e : encB (a.toNat : Int) = [a] := (test1_iff a _ (by omega)).2 ha
      rw [e]; exact ⟨⟨by omega, by omega⟩, rfl, rfl⟩
    rw [if_neg ha] at h
    cases r with
    | nil => rw [get2_nil] at h; cases h
    | cons b r =>
      have bb := byte_lt b
      rw [get2_cons] at h
      by_cases hb : (b.toNat : Int) < 128
      · rw [if_pos hb] at h
        by_cases hb0 : (b.toNat : Int) = 0
        · rw [if_pos hb0] at h; cases h
        rw [if_neg hb0] at h
        obtain ⟨rfl, rfl⟩ := Prod.mk.inj (Option.some.inj h)
        have e : encB ((a.toNat : Int) % 128 + (b.toNat : Int) * 128) = [a, b] := (test2_iff a b _ (by omega)).2 ⟨by omega, hb, hb0⟩
        rw [e]; exact ⟨⟨by omega, by omega⟩, rfl, rfl⟩
      rw [if_neg hb] at h
      cases r with
      | nil => rw [get3_nil] at h; cases h
      | cons c r =>
        have bc := byte_lt c
        rw [get3_cons] at h
        by_cases hc : (c.toNat : Int) < 128
        · rw [if_pos hc] at h
          by_cases hc0 : (c.toNat : Int) = 0
          · rw [if_pos hc0] at h; cases h
          rw [if_neg hc0] at h
          obtain ⟨rfl, rfl⟩ := Prod.mk.inj (Option.some.inj h)
          have e : encB ((a.toNat : Int) % 128 + (b.toNat : Int) % 128 * 128 + (c.toNat : Int) * 16384) = [a, b, c] := (test3_iff a b c _ (by omega)).2 ⟨by omega, by omega, hc, hc0⟩
          rw [e]; exact ⟨⟨by omega, by omega⟩, rfl, rfl⟩
        rw [if_neg hc] at h; cases h

/-- Numbers, one behind the other, as bytes. -/
def bytesOf (l : List Int) : List UInt8 := l.flatMap encB
theorem bytesOf_nil : bytesOf [] = [] := rfl
theorem bytesOf_cons (x : Int) (l : List Int) : bytesOf (x :: l) = encB x ++ bytesOf l := rfl
theorem bytesOf_app (l m : List Int) : bytesOf (l ++ m) = bytesOf l ++ bytesOf m := List.flatMap_append

theorem getL_enc {x : Int} (h : Fine x) (r : List UInt8) : getL (encB x ++ r) = some (x, (encB x).length) := by
  rw [get_enc h.1 h.2]; unfold encB; rw [List.length_map]

/-- One reading alone. -/
theorem uniq : ∀ (xs ys : List Int) (r t : List UInt8), (∀ x ∈ xs, Fine x) → (∀ y ∈ ys, Fine y) → xs.length ≤ ys.length → bytesOf xs ++ r = bytesOf ys ++ t →
    ∃ zs, ys = xs ++ zs ∧ r = bytesOf zs ++ t
  | [], ys, r, t, _, _, _, h => ⟨ys, rfl, h⟩
  | x :: xs, [], _, _, _, _, hl, _ => by simp at hl
  | x :: xs, y :: ys, r, t, hx, hy, hl, h => by
    rw [bytesOf_cons, bytesOf_cons, List.append_assoc, List.append_assoc] at h
    have h1 := getL_enc (hx x (by simp)) (bytesOf xs ++ r)
    rw [h, getL_enc (hy y (by simp))] at h1
    have e : y = x := (Prod.mk.inj (Option.some.inj h1)).1
    subst e
    have h2 := List.append_cancel_left h
    obtain ⟨zs, rfl, e2⟩ := uniq xs ys r t (fun x h => hx x (by simp [h])) (fun x h => hy x (by simp [h])) (by simpa using hl) h2
    exact ⟨zs, rfl, e2⟩

/-- What is left behind so many numbers begins with a number, if more numbers were written. -/
theorem none_short {xs ys : List Int} {r t : List UInt8} (hx : ∀ x ∈ xs, Fine x) (hy : ∀ y ∈ ys, Fine y) (hl : xs.length < ys.length) (h : bytesOf xs ++ r = bytesOf ys ++ t) (hn : getL r = none) : False := by
  obtain ⟨zs, rfl, rfl⟩ := uniq xs ys r t hx hy (by omega) h
  match zs with
  | [] => simp at hl
  | z :: zs =>
    rw [bytesOf_cons, List.append_assoc, getL_enc (hy z (by simp))] at hn
    cases hn

theorem bytesOf_inj {xs ys : List Int} (hx : ∀ x ∈ xs, Fine x) (hy : ∀ y ∈ ys, Fine y) (h : bytesOf xs = bytesOf ys) : xs = ys := by
  by_cases hl : xs.length ≤ ys.length
  · obtain ⟨zs, rfl, e⟩ := uniq xs ys [] [] hx hy hl (by simpa using h)
    match zs with
    | [] => simp
    | z :: zs =>
      have := getL_enc (hy z (by simp)) (bytesOf zs)
      rw [← bytesOf_cons] at this
      simp only [List.append_nil] at e
      rw [← e] at this; cases this
  · obtain ⟨zs, rfl, e⟩ := uniq ys xs [] [] hy hx (by omega) (by simpa using h.symm)
    match zs with
    | [] => simp
    | z :: zs =>
      have := getL_enc (hx z (by simp)) (bytesOf zs)
      rw [← bytesOf_cons] at this
      simp only [List.append_nil] at e
      rw [← e] at this; cases this
end Go.Proofs.YtoepcplbpochpaaDoor

/-
  Lists of numbers as bytes: what lodgeref.written and leb.rangeBytes answer.
-/
namespace Go.Proofs.YtoepcplbpochpaaDoor
open Go.RowKit

/-- Numbers, one behind the other, as a string. -/
def wrS (l : List Int) : ByteArray := ⟨(bytesOf l).toArray⟩

theorem wrS_nil : wrS [] = ⟨#[]⟩ := rfl
theorem wrS_data (l : List Int) : (wrS l).data.toList = bytesOf l := rfl
theorem wrS_snoc (l : List Int) (x : Int) : wrS l ++ numS x = wrS (l ++ [x]) := by
  apply Go.WideShapes.bytes_inj
  rw [ByteArray.data_append, Array.toList_append, wrS_data, numS_data, wrS_data]
  unfold bytesOf
  rw [List.flatMap_append]; simp
theorem wrS_app (l m : List Int) : wrS l ++ wrS m = wrS (l ++ m) := by
  apply Go.WideShapes.bytes_inj
  rw [ByteArray.data_append, Array.toList_append, wrS_data, wrS_data, wrS_data]
  unfold bytesOf
  rw [List.flatMap_append]
theorem encB_le (x : Int) : (encB x).length ≤ 3 := by unfold encB; rw [List.length_map, enc_len]; split <;> (try split) <;> omega
theorem wrS_size_le (l : List Int) : (wrS l).size ≤ 3 * l.length := by
  rw [Lib.size_eq, wrS_data]; unfold bytesOf
  induction l with
  | nil => simp
  | cons x r ih => rw [List.flatMap_cons, List.length_append, List.length_cons]; have := encB_le x; omega

/-- The i-th number of a list. -/
theorem take_nth (l : List Int) (k : Nat) (h : k < l.length) : l.take (k + 1) = l.take k ++ [nth l k] := by
  rw [List.take_succ_eq_append_getElem h]; unfold nth; rw [List.getD_eq_getElem?_getD, List.getElem?_eq_getElem h]; rfl

theorem ret_str {a b : ByteArray} (h : a = b) : Ending.returned (.string a) = .returned (.string b) := by rw [h]

set_option maxRecDepth 100000 in
set_option maxHeartbeats 1000000 in
theorem written_any (l : List Int) (b off cap : Nat) (w : World) (hl : l.length ≤ 100000) (hb : b < w.heap.size) (hc : ∀ i, i < l.length → w.cell? ⟨b, off + i, none⟩ = some (.int .i64 (nth l i)))
    (hr : ∀ i, i < l.length → 0 ≤ nth l i ∧ nth l i ≤ 2097151) :
    Calls Tryd.prog 119 #[.slice (some ⟨b, off, none⟩) l.length cap] w fun e w' => e = .returned (.string (wrS l)) ∧ Below w.heap.size w w' := by
  go_enter Tryd.func119, Tryd.ntmps119
  go_wp2
  go_loopw [3, 4] (fun s i wr => ∃ k : Nat, k ≤ l.length ∧ i = .int .i64 k ∧ s = .string (wrS (l.take k)) ∧ Below w.heap.size w wr) (fun _ i _ => l.length - (intOf i).toNat)
  case atStart => exact ⟨0, Nat.zero_le _, rfl, rfl, Below.refl _ _⟩
  case round =>
    obtain ⟨k, hk, rfl, rfl, hbel⟩ := hrel
    by_cases hlt : k < l.length
    · have hcell := (hbel.cell (p := ⟨b, off + k, none⟩) hb).trans (hc k hlt)
      obtain ⟨r0, r1⟩ := hr k hlt
      have P : ∀ w, Calls Tryd.prog 117 #[.int .i64 (nth l k)] w fun e w' => e = .returned (.tuple #[.string (numS (nth l k)), .int .i64 0]) ∧ Below w.heap.size w w' := fun w => by
        have := refput_any (nth l k) w; rw [putR_yes r0 r1] at this; exact this
      have P := hide P
      have hs1 : (wrS (l.take k)).size ≤ 300000 := by have := wrS_size_le (l.take k); rw [List.length_take] at this; omega
      have hs2 : (numS (nth l k)).size ≤ 3 := by have := encB_le (nth l k); rw [Lib.size_eq, numS_data]; exact this
      have HS := hide (take_nth l k hlt)
      go_wp2_with fail
      refine (unhide P _).mono ?_
      rintro e w1 ⟨rfl, hb1⟩
      go_wp2
      go_roundw
      case rel => exact ⟨k + 1, by omega, by go_num, by rw [wrS_snoc, unhide HS], hbel.trans (hb1.mono hbel.size)⟩
      case measure => simp [intOf]; omega
    · have : k = l.length := by omega
      subst this
      go_wp2
      go_ret
      exact ⟨ret_str (by rw [List.take_length]), hbel⟩

/-- The five numbers that are written of a range. -/
def nums (r : Rg) : List Int := [r.v, r.f, r.t - r.f, r.k, r.a]

theorem nums_ok {r : Rg} (h : isRg r = true) : ∀ i, i < 5 → 0 ≤ nth (nums r) i ∧ nth (nums r) i ≤ 65535 := by
  unfold isRg at h
  rw [decide_eq_true_eq] at h
  intro i hi
  match i, hi with
  | 0, _ => show 0 ≤ r.v ∧ r.v ≤ 65535; omega
  | 1, _ => show 0 ≤ r.f ∧ r.f ≤ 65535; omega
  | 2, _ => show 0 ≤ r.t - r.f ∧ r.t - r.f ≤ 65535; omega
  | 3, _ => show 0 ≤ r.k ∧ r.k ≤ 65535; omega
  | 4, _ => show 0 ≤ r.a ∧ r.a ≤ 65535; omega

end Go.Proofs.YtoepcplbpochpaaDoor

/-
  What leb.getRange answers: five numbers, one behind the other, or the first fault.
-/
namespace Go.Proofs.YtoepcplbpochpaaDoor
open Go.RowKit

/-- Get of s at the place q gives the number x and the place p; or it is refused. -/
def Gives (s : ByteArray) (q x p : Int) : Prop := ∀ w, Calls Tryd.prog 88 #[.string s, .int .i64 q] w fun e w' => e = .returned (.tuple #[.int .i64 x, .int .i64 p, .int .i64 0]) ∧ w' = w
def Fails (s : ByteArray) (q : Int) : Prop := ∀ w, Calls Tryd.prog 88 #[.string s, .int .i64 q] w fun e w' => e = .returned (.tuple #[.int .i64 0, .int .i64 0, .int .i64 14]) ∧ w' = w

set_option maxRecDepth 100000 in
set_option maxHeartbeats 1000000 in
theorem getRange_bad0 (s : ByteArray) (q0 : Int) (w : World) (b : Fails s q0) :
    Calls Tryd.prog 89 #[.string s, .int .i64 q0] w fun e w' => e = .returned (.tuple #[.agg #[.int .i64 0, .int .i64 0, .int .i64 0, .int .i64 0, .int .i64 0], .int .i64 0, .int .i64 14]) ∧ Below w.heap.size w w' := by
  go_enter Tryd.func89, Tryd.ntmps89
  go_wp2
  refine wp_loop_rounds 6 ?_; rw [rounds_succ]
  go_wp2_with fail
  refine (b _).mono ?_
  rintro e w' ⟨rfl, hw⟩
  subst hw
  go_wp2
  exact bodyPost_ret (v := .tuple #[.agg #[.int .i64 0, .int .i64 0, .int .i64 0, .int .i64 0, .int .i64 0], .int .i64 0, .int .i64 14]) (by simp [results, Tryd.results89, go_sem]) rfl ⟨rfl, (((Below.refl _ _).alloc (Nat.le_refl _) _).alloc (by simp) _)⟩

set_option maxRecDepth 100000 in
set_option maxHeartbeats 1000000 in
theorem getRange_bad1 (s : ByteArray) (q0 q1 x0 : Int) (w : World) (g0 : Gives s q0 x0 q1) (b : Fails s q1) :
    Calls Tryd.prog 89 #[.string s, .int .i64 q0] w fun e w' => e = .returned (.tuple #[.agg #[.int .i64 0, .int .i64 0, .int .i64 0, .int .i64 0, .int .i64 0], .int .i64 0, .int .i64 14]) ∧ Below w.heap.size w w' := by
  go_enter Tryd.func89, Tryd.ntmps89
  go_wp2
  refine wp_loop_rounds 6 ?_; rw [rounds_succ]
  go_wp2_with fail
  refine (g0 _).mono ?_
  rintro e w' ⟨rfl, hw⟩
  subst hw
  go_wp2_with fail
  rw [rounds_succ]
  go_wp2_with fail
  refine (b _).mono ?_
  rintro e w' ⟨rfl, hw⟩
  subst hw
  go_wp2
  exact bodyPost_ret (v := .tuple #[.agg #[.int .i64 0, .int .i64 0, .int .i64 0, .int .i64 0, .int .i64 0], .int .i64 0, .int .i64 14]) (by simp [results, Tryd.results89, go_sem]) rfl ⟨rfl, (((Below.refl _ _).alloc (Nat.le_refl _) _).alloc (by simp) _)⟩

set_option maxRecDepth 100000 in
set_option maxHeartbeats 1000000 in
theorem getRange_bad2 (s : ByteArray) (q0 q1 q2 x0 x1 : Int) (w : World) (g0 : Gives s q0 x0 q1) (g1 : Gives s q1 x1 q2) (b : Fails s q2) :
    Calls Tryd.prog 89 #[.string s, .int .i64 q0] w fun e w' => e = .returned (.tuple #[.agg #[.int .i64 0, .int .i64 0, .int .i64 0, .int .i64 0, .int .i64 0], .int .i64 0, .int .i64 14]) ∧ Below w.heap.size w w' := by
  go_enter Tryd.func89, Tryd.ntmps89
  go_wp2
  refine wp_loop_rounds 6 ?_; rw [rounds_succ]
  go_wp2_with fail
  refine (g0 _).mono ?_
  rintro e w' ⟨rfl, hw⟩
  subst hw
  go_wp2_with fail
  rw [rounds_succ]
  go_wp2_with fail
  refine (g1 _).mono ?_
  rintro e w' ⟨rfl, hw⟩
  subst hw
  go_wp2_with fail
  rw [rounds_succ]
  go_wp2_with fail
  refine (b _).mono ?_
  rintro e w' ⟨rfl, hw⟩
  subst hw
  go_wp2
  exact bodyPost_ret (v := .tuple #[.agg #[.int .i64 0, .int .i64 0, .int .i64 0, .int .i64 0, .int .i64 0], .int .i64 0, .int .i64 14]) (by simp [results, Tryd.results89, go_sem]) rfl ⟨rfl, (((Below.refl _ _).alloc (Nat.le_refl _) _).alloc (by simp) _)⟩

set_option maxRecDepth 100000 in
set_option maxHeartbeats 1000000 in
theorem getRange_bad3 (s : ByteArray) (q0 q1 q2 q3 x0 x1 x2 : Int) (w : World) (g0 : Gives s q0 x0 q1) (g1 : Gives s q1 x1 q2) (g2 : Gives s q2 x2 q3) (b : Fails s q3) :
    Calls Tryd.prog 89 #[.string s, .int .i64 q0] w fun e w' => e = .returned (.tuple #[.agg #[.int .i64 0, .int .i64 0, .int .i64 0, .int .i64 0, .int .i64 0], .int .i64 0, .int .i64 14]) ∧ Below w.heap.size w w' := by
  go_enter Tryd.func89, Tryd.ntmps89
  go_wp2
  refine wp_loop_rounds 6 ?_; rw [rounds_succ]
  go_wp2_with fail
  refine (g0 _).mono ?_
  rintro e w' ⟨rfl, hw⟩
  subst hw
  go_wp2_with fail
  rw [rounds_succ]
  go_wp2_with fail
  refine (g1 _).mono ?_
  rintro e w' ⟨rfl, hw⟩
  subst hw
  go_wp2_with fail
  rw [rounds_succ]
  go_wp2_with fail
  refine (g2 _).mono ?_
  rintro e w' ⟨rfl, hw⟩
  subst hw
  go_wp2_with fail
  rw [rounds_succ]
  go_wp2_with fail
  refine (b _).mono ?_
  rintro e w' ⟨rfl, hw⟩
  subst hw
  go_wp2
  exact bodyPost_ret (v := .tuple #[.agg #[.int .i64 0, .int .i64 0, .int .i64 0, .int .i64 0, .int .i64 0], .int .i64 0, .int .i64 14]) (by simp [results, Tryd.results89, go_sem]) rfl ⟨rfl, (((Below.refl _ _).alloc (Nat.le_refl _) _).alloc (by simp) _)⟩

set_option maxRecDepth 100000 in
set_option maxHeartbeats 1000000 in
theorem getRange_bad4 (s : ByteArray) (q0 q1 q2 q3 q4 x0 x1 x2 x3 : Int) (w : World) (g0 : Gives s q0 x0 q1) (g1 : Gives s q1 x1 q2) (g2 : Gives s q2 x2 q3) (g3 : Gives s q3 x3 q4) (b : Fails s q4) :
    Calls Tryd.prog 89 #[.string s, .int .i64 q0] w fun e w' => e = .returned (.tuple #[.agg #[.int .i64 0, .int .i64 0, .int .i64 0, .int .i64 0, .int .i64 0], .int .i64 0, .int .i64 14]) ∧ Below w.heap.size w w' := by
  go_enter Tryd.func89, Tryd.ntmps89
  go_wp2
  refine wp_loop_rounds 6 ?_; rw [rounds_succ]
  go_wp2_with fail
  refine (g0 _).mono ?_
  rintro e w' ⟨rfl, hw⟩
  subst hw
  go_wp2_with fail
  rw [rounds_succ]
  go_wp2_with fail
  refine (g1 _).mono ?_
  rintro e w' ⟨rfl, hw⟩
  subst hw
  go_wp2_with fail
  rw [rounds_succ]
  go_wp2_with fail
  refine (g2 _).mono ?_
  rintro e w' ⟨rfl, hw⟩
  subst hw
  go_wp2_with fail
  rw [rounds_succ]
  go_wp2_with fail
  refine (g3 _).mono ?_
  rintro e w' ⟨rfl, hw⟩
  subst hw
  go_wp2_with fail
  rw [rounds_succ]
  go_wp2_with fail
  refine (b _).mono ?_
  rintro e w' ⟨rfl, hw⟩
  subst hw
  go_wp2
  exact bodyPost_ret (v := .tuple #[.agg #[.int .i64 0, .int .i64 0, .int .i64 0, .int .i64 0, .int .i64 0], .int .i64 0, .int .i64 14]) (by simp [results, Tryd.results89, go_sem]) rfl ⟨rfl, (((Below.refl _ _).alloc (Nat.le_refl _) _).alloc (by simp) _)⟩

set_option maxRecDepth 100000 in
set_option maxHeartbeats 1000000 in
theorem getRange_ok (s : ByteArray) (q0 q1 q2 q3 q4 q5 x0 x1 x2 x3 x4 : Int) (w : World) (g0 : Gives s q0 x0 q1) (g1 : Gives s q1 x1 q2) (g2 : Gives s q2 x2 q3) (g3 : Gives s q3 x3 q4) (g4 : Gives s q4 x4 q5) (h1 : 0 ≤ x1 ∧ x1 ≤ 2097151) (h2 : 0 ≤ x2 ∧ x2 ≤ 2097151) :
    Calls Tryd.prog 89 #[.string s, .int .i64 q0] w fun e w' => e = .returned (.tuple #[.agg #[.int .i64 x0, .int .i64 x1, .int .i64 (x1 + x2), .int .i64 x3, .int .i64 x4], .int .i64 q5, .int .i64 0]) ∧ Below w.heap.size w w' := by
  obtain ⟨h1, h3⟩ := h1
  obtain ⟨h2, h4⟩ := h2
  go_enter Tryd.func89, Tryd.ntmps89
  go_wp2
  refine wp_loop_rounds 6 ?_; rw [rounds_succ]
  go_wp2_with fail
  refine (g0 _).mono ?_
  rintro e w' ⟨rfl, hw⟩
  subst hw
  go_wp2_with fail
  rw [rounds_succ]
  go_wp2_with fail
  refine (g1 _).mono ?_
  rintro e w' ⟨rfl, hw⟩
  subst hw
  go_wp2_with fail
  rw [rounds_succ]
  go_wp2_with fail
  refine (g2 _).mono ?_
  rintro e w' ⟨rfl, hw⟩
  subst hw
  go_wp2_with fail
  rw [rounds_succ]
  go_wp2_with fail
  refine (g3 _).mono ?_
  rintro e w' ⟨rfl, hw⟩
  subst hw
  go_wp2_with fail
  rw [rounds_succ]
  go_wp2_with fail
  refine (g4 _).mono ?_
  rintro e w' ⟨rfl, hw⟩
  subst hw
  go_wp2_with fail
  rw [rounds_succ]
  go_wp2
  exact bodyPost_ret (v := .tuple #[.agg #[.int .i64 x0, .int .i64 x1, .int .i64 (x1 + x2), .int .i64 x3, .int .i64 x4], .int .i64 q5, .int .i64 0]) (by simp [results, Tryd.results89, go_sem]) rfl ⟨rfl, (((((Below.refl _ _).alloc (Nat.le_refl _) _).alloc (by simp) _)).alloc (by simp; omega) _)⟩

end Go.Proofs.YtoepcplbpochpaaDoor

/-
  What leb.Encode answers, of every list of ranges.
-/
namespace Go.Proofs.YtoepcplbpochpaaDoor
open Go.RowKit

/-- The numbers that are written of a table; its bytes as a string. -/
def flat (R : List Rg) : List Int := (R.length : Int) :: R.flatMap nums
def flatTo (R : List Rg) (k : Nat) : List Int := (R.length : Int) :: (R.take k).flatMap nums
def encAll (R : List Rg) : ByteArray := wrS (flat R)

theorem numS_wr (x : Int) : numS x = wrS [x] := by
  apply Go.WideShapes.bytes_inj
  rw [numS_data, wrS_data]; unfold bytesOf; simp
theorem flatMap_len (R : List Rg) : (R.flatMap nums).length = 5 * R.length := by
  induction R with
  | nil => rfl
  | cons r R ih => rw [List.flatMap_cons, List.length_append, ih, List.length_cons]; show 5 + _ = _; omega
theorem flatTo_len (R : List Rg) (k : Nat) : (flatTo R k).length ≤ 1 + 5 * k := by
  unfold flatTo; rw [List.length_cons, flatMap_len, List.length_take]; omega
theorem take_rg (R : List Rg) (k : Nat) (h : k < R.length) : R.take (k + 1) = R.take k ++ [rg R k] := by
  rw [List.take_succ_eq_append_getElem h]; unfold rg; rw [List.getD_eq_getElem?_getD, List.getElem?_eq_getElem h]; rfl
theorem flatTo_succ (R : List Rg) (k : Nat) (h : k < R.length) : flatTo R (k + 1) = flatTo R k ++ nums (rg R k) := by
  unfold flatTo; rw [take_rg R k h, List.flatMap_append]; simp
theorem flatTo_end (R : List Rg) : flatTo R R.length = flat R := by unfold flatTo flat; rw [List.take_length]

theorem isTab_len {R : List Rg} (h : isTab R = true) : R.length ≤ 200 := by
  unfold isTab at h; rw [Bool.and_eq_true, decide_eq_true_eq] at h; exact h.1
theorem isTab_rg {R : List Rg} (h : isTab R = true) {k : Nat} (hk : k < R.length) : isRg (rg R k) = true := by
  unfold isTab tabTo at h; rw [Bool.and_eq_true, List.all_eq_true] at h
  have := h.2 k (by rw [List.mem_range]; exact hk)
  rw [Bool.and_eq_true] at this; exact this.1

/-- What Encode answers. -/
def encV (R : List Rg) : Value := if isTab R = true then .tuple #[.string (encAll R), .int .i64 0] else .tuple #[.string ByteArray.empty, .int .i64 10]
theorem encV_yes {R : List Rg} (h : isTab R = true) : encV R = .tuple #[.string (encAll R), .int .i64 0] := by unfold encV; rw [if_pos h]
theorem encV_no {R : List Rg} (h : isTab R = false) : encV R = .tuple #[.string ByteArray.empty, .int .i64 10] := by unfold encV; rw [if_neg (by rw [h]; decide)]

theorem ret_str2 {a b : ByteArray} {z : Int} (h : a = b) : Ending.returned (.tuple #[.string a, .int .i64 z]) = .returned (.tuple #[.string b, .int .i64 z]) := by rw [h]

end Go.Proofs.YtoepcplbpochpaaDoor
