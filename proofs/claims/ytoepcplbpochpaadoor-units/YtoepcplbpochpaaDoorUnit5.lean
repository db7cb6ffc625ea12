/-
  What leb.isTable answers, of every list of ranges.
-/
import Derived.Test.YtoepcplbpochpaaDoorUnit4
import Derived.Deep.RegionHeld3
import Derived.Deep.QuietTactic
import Derived.BigQuiet

namespace Go.Proofs.YtoepcplbpochpaaDoor
open Go.RowKit

/-- The i-th range of a list. -/
def rg (R : List Rg) (i : Nat) : Rg := R.getD i ⟨0, 0, 0, 0, 0⟩
/-- The five cells of a range lie at an address. -/
def AtR5 (w : World) (b o : Nat) (r : Rg) : Prop :=
  w.cell? ⟨b, o, none⟩ = some (.int .i64 r.v) ∧ w.cell? ⟨b, o + 1, none⟩ = some (.int .i64 r.f) ∧ w.cell? ⟨b, o + 2, none⟩ = some (.int .i64 r.t) ∧ w.cell? ⟨b, o + 3, none⟩ = some (.int .i64 r.k) ∧ w.cell? ⟨b, o + 4, none⟩ = some (.int .i64 r.a)
/-- A list of ranges lies at an address. -/
def Lie (w : World) (b off : Nat) (R : List Rg) : Prop := ∀ i, i < R.length → AtR5 w b (off + i * 5) (rg R i)

theorem AtR5.below {w w' : World} {B b o : Nat} {r : Rg} (h : AtR5 w b o r) (hb : Below B w w') (hB : b < B) : AtR5 w' b o r :=
  ⟨(hb.cell hB).trans h.1, (hb.cell hB).trans h.2.1, (hb.cell hB).trans h.2.2.1, (hb.cell hB).trans h.2.2.2.1, (hb.cell hB).trans h.2.2.2.2⟩
theorem Lie.below {w w' : World} {B b off : Nat} {R : List Rg} (h : Lie w b off R) (hb : Below B w w') (hB : b < B) : Lie w' b off R :=
  fun i hi => (h i hi).below hb hB

/-- Is the list a table as far as its first k ranges? -/
def tabTo (R : List Rg) (k : Nat) : Bool := (List.range k).all fun i => isRg (rg R i) && (decide (i = 0) || follows (rg R (i - 1)) (rg R i))
def isTab (R : List Rg) : Bool := decide (R.length ≤ 200) && tabTo R R.length

theorem tabTo_succ (R : List Rg) (k : Nat) : tabTo R (k + 1) = (tabTo R k && (isRg (rg R k) && (decide (k = 0) || follows (rg R (k - 1)) (rg R k)))) := by
  unfold tabTo; rw [List.range_succ, List.all_append]; simp
theorem tabTo_mono (R : List Rg) {k n : Nat} (h : k ≤ n) (hn : tabTo R n = true) : tabTo R k = true := by
  unfold tabTo at *; rw [List.all_eq_true] at *; intro i hi; rw [List.mem_range] at hi; exact hn i (by rw [List.mem_range]; omega)

set_option maxRecDepth 100000 in
set_option maxHeartbeats 1000000 in
theorem isTable_some (R : List Rg) (b off cap : Nat) (w : World) (hL : Lie w b off R) (hb : b < w.heap.size) (hlen : R.length ≤ 9223372036854775807) :
    Calls Tryd.prog 90 #[.slice (some ⟨b, off, none⟩) R.length cap] w fun e w' => e = .returned (.bool (isTab R)) ∧ Below w.heap.size w w' := by
  by_cases h200 : R.length ≤ 200
  case neg =>
    have e : isTab R = false := by simp [isTab, h200]
    rw [e]
    go_enter Tryd.func90, Tryd.ntmps90
    go_wp2
    go_ret
    exact ⟨rfl, Below.refl _ _⟩
  have e : isTab R = tabTo R R.length := by simp [isTab, h200]
  rw [e]
  clear e
  go_enter Tryd.func90, Tryd.ntmps90
  go_wp2
  go_loopw [3] (fun i wr => ∃ k : Nat, k ≤ R.length ∧ i = .int .i64 k ∧ tabTo R k = true ∧ Below w.heap.size w wr) (fun i _ => R.length - (intOf i).toNat)
  case atStart => exact ⟨0, Nat.zero_le _, rfl, rfl, Below.refl _ _⟩
  case round =>
    obtain ⟨k, hk, rfl, htab, hbel⟩ := hrel
    have HT := hide htab
    clear htab
    by_cases hlt : k < R.length
    · have C1 := hide (fun w => isRange_any (rg R k) w)
      have hc := hide ((hL k hlt).below hbel hb)
      cases hr : isRg (rg R k)
      · have hf : tabTo R R.length = false := by
          cases h : tabTo R R.length
          · rfl
          · have := tabTo_mono R (show k + 1 ≤ R.length by omega) h
            rw [tabTo_succ, hr] at this; simp at this
        have HF := hide hf
        rw [hr] at C1
        obtain ⟨c0, c1, c2, c3, c4⟩ := unhide hc
        clear hr hf hc
        go_wp2_with fail
        refine (unhide C1 _).mono ?_
        rintro e w1 ⟨rfl, hb1⟩
        go_wp2
        go_ret
        exact ⟨ret_bool (unhide HF).symm, hbel.trans (hb1.mono hbel.size)⟩
      · rw [hr] at C1
        have HR := hide hr
        clear hr
        obtain ⟨c0, c1, c2, c3, c4⟩ := unhide hc
        clear hc
        by_cases h0 : 0 < k
        case neg =>
          have hn : tabTo R (k + 1) = true := by rw [tabTo_succ, unhide HT, unhide HR]; simp; omega
          have HN := hide hn
          have hg : decide ((0 : Int) < (k : Int)) = false := by simp; omega
          clear hn
          go_wp2_with fail
          refine (unhide C1 _).mono ?_
          rintro e w1 ⟨rfl, hb1⟩
          go_wp2_with fail
          go_quiet (fail)
          go_wp2
          go_roundw
          case rel => exact ⟨k + 1, by omega, by go_num, unhide HN, below_drewN (hbel.trans (hb1.mono hbel.size)) _⟩
          case measure => simp [intOf]; omega
        have C2 := hide (fun w => mayFollow_any (rg R (k - 1)) (rg R k) w)
        cases hf : follows (rg R (k - 1)) (rg R k)
        · rw [hf] at C2
          have hn : tabTo R R.length = false := by
            cases h : tabTo R R.length
            · rfl
            · have := tabTo_mono R (show k + 1 ≤ R.length by omega) h
              rw [tabTo_succ, hf] at this; simp at this; omega
          have HN := hide hn
          clear hn hf
          go_wp2_with fail
          refine (unhide C1 _).mono ?_
          rintro e w1 ⟨rfl, hb1⟩
          have hb2 := hbel.trans (hb1.mono hbel.size)
          obtain ⟨d0, d1, d2, d3, d4⟩ := (hL k hlt).below hb2 hb
          obtain ⟨p0, p1, p2, p3, p4⟩ := (hL (k - 1) (by omega)).below hb2 hb
          go_wp2_with fail
          have i1 : (0 : Int) ≤ (k : Int) - 1 := by omega
          have i2 : (k : Int) - 1 < (R.length : Int) := by omega
          have i3 : (k : Int) < (R.length : Int) := by omega
          have i4 : decide ((0 : Int) < (k : Int)) = true := by simp; omega
          have i6 : (1 : Int) ≤ (k : Int) := by omega
          have i7 : 1 ≤ k := by omega
          have i5 : IntKind.i64.wrap ((k : Int) - 1) = (k : Int) - 1 := by rw [IntKind.wrap_i64]; omega
          go_region_held3 (fun w' => (w'.cell? ⟨b, off + k * 5, none⟩ = some (.int .i64 (rg R k).v) ∧ w'.cell? ⟨b, off + k * 5 + 1, none⟩ = some (.int .i64 (rg R k).f) ∧ w'.cell? ⟨b, off + k * 5 + 2, none⟩ = some (.int .i64 (rg R k).t) ∧ w'.cell? ⟨b, off + k * 5 + 3, none⟩ = some (.int .i64 (rg R k).k) ∧ w'.cell? ⟨b, off + k * 5 + 4, none⟩ = some (.int .i64 (rg R k).a)) ∧
            w'.cell? ⟨b, off + (k - 1) * 5, none⟩ = some (.int .i64 (rg R (k - 1)).v) ∧ w'.cell? ⟨b, off + (k - 1) * 5 + 1, none⟩ = some (.int .i64 (rg R (k - 1)).f) ∧ w'.cell? ⟨b, off + (k - 1) * 5 + 2, none⟩ = some (.int .i64 (rg R (k - 1)).t) ∧ w'.cell? ⟨b, off + (k - 1) * 5 + 3, none⟩ = some (.int .i64 (rg R (k - 1)).k) ∧ w'.cell? ⟨b, off + (k - 1) * 5 + 4, none⟩ = some (.int .i64 (rg R (k - 1)).a)) (simp [*])
            (first | (go_at_call 115; refine (unhide C2 _).mono ?_; rintro e w2 ⟨rfl, hb3⟩; have hb4 := (hb2.drew).trans (hb3.mono (by simpa using hb2.size)); obtain ⟨q0, q1, q2, q3, q4⟩ := (hL k hlt).below hb4 hb; obtain ⟨s0, s1, s2, s3, s4⟩ := (hL (k - 1) (by omega)).below hb4 hb))
          go_wp2
          go_ret
          exact ⟨ret_bool (unhide HN).symm, by assumption⟩
        · rw [hf] at C2
          have hn : tabTo R (k + 1) = true := by rw [tabTo_succ, unhide HT, unhide HR, hf]; simp
          have HN := hide hn
          clear hn hf
          go_wp2_with fail
          refine (unhide C1 _).mono ?_
          rintro e w1 ⟨rfl, hb1⟩
          have hb2 := hbel.trans (hb1.mono hbel.size)
          obtain ⟨d0, d1, d2, d3, d4⟩ := (hL k hlt).below hb2 hb
          obtain ⟨p0, p1, p2, p3, p4⟩ := (hL (k - 1) (by omega)).below hb2 hb
          go_wp2_with fail
          have i1 : (0 : Int) ≤ (k : Int) - 1 := by omega
          have i2 : (k : Int) - 1 < (R.length : Int) := by omega
          have i3 : (k : Int) < (R.length : Int) := by omega
          have i4 : decide ((0 : Int) < (k : Int)) = true := by simp; omega
          have i6 : (1 : Int) ≤ (k : Int) := by omega
          have i7 : 1 ≤ k := by omega
          have i5 : IntKind.i64.wrap ((k : Int) - 1) = (k : Int) - 1 := by rw [IntKind.wrap_i64]; omega
          go_region_held3 (fun w' => (w'.cell? ⟨b, off + k * 5, none⟩ = some (.int .i64 (rg R k).v) ∧ w'.cell? ⟨b, off + k * 5 + 1, none⟩ = some (.int .i64 (rg R k).f) ∧ w'.cell? ⟨b, off + k * 5 + 2, none⟩ = some (.int .i64 (rg R k).t) ∧ w'.cell? ⟨b, off + k * 5 + 3, none⟩ = some (.int .i64 (rg R k).k) ∧ w'.cell? ⟨b, off + k * 5 + 4, none⟩ = some (.int .i64 (rg R k).a)) ∧
            w'.cell? ⟨b, off + (k - 1) * 5, none⟩ = some (.int .i64 (rg R (k - 1)).v) ∧ w'.cell? ⟨b, off + (k - 1) * 5 + 1, none⟩ = some (.int .i64 (rg R (k - 1)).f) ∧ w'.cell? ⟨b, off + (k - 1) * 5 + 2, none⟩ = some (.int .i64 (rg R (k - 1)).t) ∧ w'.cell? ⟨b, off + (k - 1) * 5 + 3, none⟩ = some (.int .i64 (rg R (k - 1)).k) ∧ w'.cell? ⟨b, off + (k - 1) * 5 + 4, none⟩ = some (.int .i64 (rg R (k - 1)).a)) (simp [*])
            (first | (go_at_call 115; refine (unhide C2 _).mono ?_; rintro e w2 ⟨rfl, hb3⟩; have hb4 := (hb2.drew).trans (hb3.mono (by simpa using hb2.size)); obtain ⟨q0, q1, q2, q3, q4⟩ := (hL k hlt).below hb4 hb; obtain ⟨s0, s1, s2, s3, s4⟩ := (hL (k - 1) (by omega)).below hb4 hb))
          go_wp2
          go_roundw
          case rel => exact ⟨k + 1, by omega, by go_num, unhide HN, by assumption⟩
          case measure => simp [intOf]; omega
    · have : k = R.length := by omega
      subst this
      go_wp2
      go_ret
      exact ⟨ret_bool (unhide HT).symm, hbel⟩

theorem isTable_nil (ao : Option Addr) (cap : Nat) (w : World) :
    Calls Tryd.prog 90 #[.slice ao 0 cap] w fun e w' => e = .returned (.bool (isTab [])) ∧ Below w.heap.size w w' := by
  go_enter Tryd.func90, Tryd.ntmps90
  go_wp2
  refine wp_loop_rounds 1 ?_; rw [rounds_succ]
  go_wp2
  go_ret
  exact ⟨rfl, Below.refl _ _⟩

/-- A slice that holds a list of ranges: nothing is asked of its address where the list is empty. -/
def Held (w : World) (ao : Option Addr) (R : List Rg) : Prop := R = [] ∨ ∃ b off, ao = some ⟨b, off, none⟩ ∧ b < w.heap.size ∧ Lie w b off R

theorem Held.below {w w' : World} {ao : Option Addr} {R : List Rg} (h : Held w ao R) (hb : Below w.heap.size w w') : Held w' ao R := by
  rcases h with h | ⟨b, off, h, hlt, hl⟩
  · exact .inl h
  · exact .inr ⟨b, off, h, Nat.lt_of_lt_of_le hlt hb.size, hl.below hb hlt⟩

theorem isTable_any (R : List Rg) (ao : Option Addr) (cap : Nat) (w : World) (hL : Held w ao R) (hlen : R.length ≤ 9223372036854775807) :
    Calls Tryd.prog 90 #[.slice ao R.length cap] w fun e w' => e = .returned (.bool (isTab R)) ∧ Below w.heap.size w w' := by
  rcases hL with rfl | ⟨b, off, rfl, hb, hL⟩
  · exact isTable_nil ao cap w
  · exact isTable_some R b off cap w hL hb hlen
end Go.Proofs.YtoepcplbpochpaaDoor
