/-
  What lodgeref.IsTable answers, of every list of ranges: just what leb.isTable answers, though it looks at every pair.
-/
import Derived.Test.YtoepcplbpochpaaDoorIsTable
namespace Go.Proofs.YtoepcplbpochpaaDoor
open Go.RowKit

/-! ### The plain mathematics: neighbours decide of all pairs -/
def before (x y : Rg) : Prop := x.v < y.v ∨ x.v = y.v ∧ x.t ≤ y.f

theorem before_of_follows {x y : Rg} (h : follows x y = true) : before x y := by
  unfold follows at h; unfold before
  by_cases a : x.v = y.v
  · by_cases b : x.t = y.f
    · omega
    · simp [a, b] at h; omega
  · simp [a] at h; omega
theorem before_trans {x y z : Rg} (h : before x y) (h' : before y z) (hy : y.f < y.t) : before x z := by
  unfold before at *; omega
theorem behind_true (x y : Rg) : behind x y true = follows x y := by
  unfold behind follows
  by_cases a : x.v = y.v
  · by_cases b : x.t = y.f
    · simp [a, b]
    · by_cases c : y.f < x.t
      · simp [a, b, c]; omega
      · have : x.t < y.f := by omega
        simp [a, b, c, this]
  · simp [a]
theorem behind_false {x y : Rg} (h : before x y) : behind x y false = true := by
  unfold behind; unfold before at h
  by_cases a : x.v = y.v
  · simp [a]; omega
  · simp [a]; omega

theorem isRg_lt {r : Rg} (h : isRg r = true) : r.f < r.t := by unfold isRg at h; rw [decide_eq_true_eq] at h; omega

theorem tab_at {R : List Rg} {n k : Nat} (h : tabTo R n = true) (hk : k < n) : isRg (rg R k) = true ∧ (k = 0 ∨ follows (rg R (k - 1)) (rg R k) = true) := by
  unfold tabTo at h; rw [List.all_eq_true] at h
  have := h k (by rw [List.mem_range]; exact hk)
  simpa using this

theorem tab_before {R : List Rg} {n : Nat} (h : tabTo R n = true) : ∀ k, k < n → ∀ j, j < k → before (rg R j) (rg R k) := by
  intro k
  induction k with
  | zero => intro _ j hj; omega
  | succ k ih =>
    intro hk j hj
    have f := before_of_follows ((tab_at h hk).2.resolve_left (by omega))
    rw [Nat.add_sub_cancel] at f
    by_cases e : j = k
    · subst e; exact f
    · exact before_trans (ih (by omega) j (by omega)) f (isRg_lt (tab_at h (by omega : k < n)).1)

/-- What a true table says of each pair. -/
theorem tab_behind {R : List Rg} {n k j : Nat} (h : tabTo R n = true) (hk : k < n) (hj : j < k) : behind (rg R j) (rg R k) (decide ((j : Int) = (k : Int) - 1)) = true := by
  by_cases e : (j : Int) = (k : Int) - 1
  · rw [decide_eq_true e, behind_true]
    have := (tab_at h hk).2.resolve_left (by omega)
    rw [show k - 1 = j by omega] at this; exact this
  · rw [decide_eq_false e]; exact behind_false (tab_before h k hk j hj)

/-- Pairs behind one another. -/
def pairsTo (R : List Rg) (k j : Nat) : Prop := ∀ i, i < j → behind (rg R i) (rg R k) (decide ((i : Int) = (k : Int) - 1)) = true

theorem tab_next {R : List Rg} {k : Nat} (h : tabTo R k = true) (hr : isRg (rg R k) = true) (hp : pairsTo R k k) : tabTo R (k + 1) = true := by
  rw [tabTo_succ, h, hr]
  by_cases h0 : k = 0
  · simp [h0]
  · have := hp (k - 1) (by omega)
    rw [decide_eq_true (by omega), behind_true] at this
    simp [this]

set_option maxRecDepth 100000 in
set_option maxHeartbeats 1000000 in
theorem refTable_some (R : List Rg) (b off cap : Nat) (w : World) (hL : Lie w b off R) (hb : b < w.heap.size) (hlen : R.length ≤ 9223372036854775807) :
    Calls Tryd.prog 118 #[.slice (some ⟨b, off, none⟩) R.length cap] w fun e w' => e = .returned (.bool (isTab R)) ∧ Below w.heap.size w w' := by
  by_cases h200 : R.length ≤ 200
  case neg =>
    have e : isTab R = false := by simp [isTab, h200]
    rw [e]
    go_enter Tryd.func118, Tryd.ntmps118
    go_wp2
    go_ret
    exact ⟨rfl, Below.refl _ _⟩
  have e : isTab R = tabTo R R.length := by simp [isTab, h200]
  rw [e]
  clear e
  go_enter Tryd.func118, Tryd.ntmps118
  go_wp2
  go_loopw [3, 4, 5] (fun i _ _ wr => ∃ k : Nat, k ≤ R.length ∧ i = .int .i64 k ∧ tabTo R k = true ∧ Below w.heap.size w wr) (fun i _ _ _ => R.length - (intOf i).toNat)
  case atStart => exact ⟨0, Nat.zero_le _, rfl, rfl, Below.refl _ _⟩
  case round =>
    obtain ⟨k, hk, rfl, htab, hbel⟩ := hrel
    have HT := hide htab
    clear htab
    by_cases hlt : k < R.length
    case neg =>
      have : k = R.length := by omega
      subst this
      go_wp2
      go_ret
      exact ⟨ret_bool (unhide HT).symm, hbel⟩
    have C1 := hide (fun w => one_any (rg R k) w)
    have hc := hide ((hL k hlt).below hbel hb)
    cases hr : isRg (rg R k)
    · have hf : tabTo R R.length = false := by
        cases h : tabTo R R.length
        · rfl
        · have := tabTo_mono R (show k + 1 ≤ R.length by omega) h
          rw [tabTo_succ, hr] at this; simp at this
      have HF := hide hf
      rw [hr] at C1
      obtain ⟨c0, c1, c2, c3, c4⟩ := unhide hc
      clear hr hf hc
      go_wp2_with fail
      refine (unhide C1 _).mono ?_
      rintro e w1 ⟨rfl, hb1⟩
      go_wp2
      go_ret
      exact ⟨ret_bool (unhide HF).symm, hbel.trans (hb1.mono hbel.size)⟩
    · rw [hr] at C1
      have HR := hide hr
      obtain ⟨c0, c1, c2, c3, c4⟩ := unhide hc
      clear hr hc
      go_wp2_with fail
      refine (unhide C1 _).mono ?_
      rintro e w1 ⟨rfl, hb1⟩
      have hb2 := hbel.trans (hb1.mono hbel.size)
      clear c0 c1 c2 c3 c4 hb1 hbel
      go_wp2
      go_loopw [4, 5] (fun _ i wr => ∃ j : Nat, j ≤ k ∧ i = .int .i64 j ∧ pairsTo R k j ∧ Below w.heap.size w wr) (fun _ i _ => k - (intOf i).toNat)
      case atStart => exact ⟨0, Nat.zero_le _, rfl, fun i hi => absurd hi (by omega), hb2⟩
      case round =>
        obtain ⟨j, hj, rfl, hp, hbel⟩ := hrel
        have HP := hide hp
        clear hp
        by_cases hjk : j < k
        case neg =>
          have hjk' : j = k := by omega
          have hp : pairsTo R k k := by have := unhide HP; rw [hjk'] at this; exact this
          have hn : tabTo R (k + 1) = true := tab_next (unhide HT) (unhide HR) hp
          clear hp hjk'
          have HN := hide hn
          clear hn
          go_wp2
          go_roundw
          case rel => exact ⟨k + 1, by omega, by go_num, unhide HN, hbel⟩
          case measure => simp [intOf]; omega
        have C2 := hide (fun w => pair_any (rg R j) (rg R k) ((j : Int) == (k : Int) - 1) w)
        have i1 : (j : Int) < (R.length : Int) := by omega
        have i3 : (k : Int) < (R.length : Int) := by omega
        have i5 : IntKind.i64.wrap ((k : Int) - 1) = (k : Int) - 1 := by rw [IntKind.wrap_i64]; omega
        obtain ⟨d0, d1, d2, d3, d4⟩ := (hL k hlt).below hbel hb
        obtain ⟨p0, p1, p2, p3, p4⟩ := (hL j (by omega)).below hbel hb
        cases hf : behind (rg R j) (rg R k) ((j : Int) == (k : Int) - 1)
        · rw [hf] at C2
          have hn : tabTo R R.length = false := by
            cases h : tabTo R R.length
            · rfl
            · have := tab_behind h hlt hjk
              exact absurd (hf.symm.trans this) (by decide)
          have HN := hide hn
          clear hn hf
          go_wp2_with fail
          go_region_held3 (fun w' => (w'.cell? ⟨b, off + k * 5, none⟩ = some (.int .i64 (rg R k).v) ∧ w'.cell? ⟨b, off + k * 5 + 1, none⟩ = some (.int .i64 (rg R k).f) ∧ w'.cell? ⟨b, off + k * 5 + 2, none⟩ = some (.int .i64 (rg R k).t) ∧ w'.cell? ⟨b, off + k * 5 + 3, none⟩ = some (.int .i64 (rg R k).k) ∧ w'.cell? ⟨b, off + k * 5 + 4, none⟩ = some (.int .i64 (rg R k).a)) ∧
            w'.cell? ⟨b, off + j * 5, none⟩ = some (.int .i64 (rg R j).v) ∧ w'.cell? ⟨b, off + j * 5 + 1, none⟩ = some (.int .i64 (rg R j).f) ∧ w'.cell? ⟨b, off + j * 5 + 2, none⟩ = some (.int .i64 (rg R j).t) ∧ w'.cell? ⟨b, off + j * 5 + 3, none⟩ = some (.int .i64 (rg R j).k) ∧ w'.cell? ⟨b, off + j * 5 + 4, none⟩ = some (.int .i64 (rg R j).a)) (simp [*])
            (first | (go_at_call 134; refine (unhide C2 _).mono ?_; rintro e w2 ⟨rfl, hb3⟩; have hb4 := (hbel.drew).trans (hb3.mono (by simpa using hbel.size)); obtain ⟨q0, q1, q2, q3, q4⟩ := (hL k hlt).below hb4 hb; obtain ⟨s0, s1, s2, s3, s4⟩ := (hL j (by omega)).below hb4 hb))
          go_wp2
          go_ret
          exact ⟨ret_bool (unhide HN).symm, by assumption⟩
        · rw [hf] at C2
          have hp : pairsTo R k (j + 1) := fun i hi => by
            by_cases e : i = j
            · subst e; exact hf
            · exact unhide HP i (by omega)
          have HN := hide hp
          clear hp hf
          go_wp2_with fail
          go_region_held3 (fun w' => (w'.cell? ⟨b, off + k * 5, none⟩ = some (.int .i64 (rg R k).v) ∧ w'.cell? ⟨b, off + k * 5 + 1, none⟩ = some (.int .i64 (rg R k).f) ∧ w'.cell? ⟨b, off + k * 5 + 2, none⟩ = some (.int .i64 (rg R k).t) ∧ w'.cell? ⟨b, off + k * 5 + 3, none⟩ = some (.int .i64 (rg R k).k) ∧ w'.cell? ⟨b, off + k * 5 + 4, none⟩ = some (.int .i64 (rg R k).a)) ∧
            w'.cell? ⟨b, off + j * 5, none⟩ = some (.int .i64 (rg R j).v) ∧ w'.cell? ⟨b, off + j * 5 + 1, none⟩ = some (.int .i64 (rg R j).f) ∧ w'.cell? ⟨b, off + j * 5 + 2, none⟩ = some (.int .i64 (rg R j).t) ∧ w'.cell? ⟨b, off + j * 5 + 3, none⟩ = some (.int .i64 (rg R j).k) ∧ w'.cell? ⟨b, off + j * 5 + 4, none⟩ = some (.int .i64 (rg R j).a)) (simp [*])
            (first | (go_at_call 134; refine (unhide C2 _).mono ?_; rintro e w2 ⟨rfl, hb3⟩; have hb4 := (hbel.drew).trans (hb3.mono (by simpa using hbel.size)); obtain ⟨q0, q1, q2, q3, q4⟩ := (hL k hlt).below hb4 hb; obtain ⟨s0, s1, s2, s3, s4⟩ := (hL j (by omega)).below hb4 hb))
          go_wp2
          go_roundw
          case rel => exact ⟨j + 1, by omega, by go_num, unhide HN, by assumption⟩
          case measure => simp [intOf]; omega

theorem refTable_nil (ao : Option Addr) (cap : Nat) (w : World) :
    Calls Tryd.prog 118 #[.slice ao 0 cap] w fun e w' => e = .returned (.bool (isTab [])) ∧ Below w.heap.size w w' := by
  go_enter Tryd.func118, Tryd.ntmps118
  go_wp2
  refine wp_loop_rounds 1 ?_; rw [rounds_succ]
  go_wp2
  go_ret
  exact ⟨rfl, Below.refl _ _⟩

theorem refTable_any (R : List Rg) (ao : Option Addr) (cap : Nat) (w : World) (hL : Held w ao R) (hlen : R.length ≤ 9223372036854775807) :
    Calls Tryd.prog 118 #[.slice ao R.length cap] w fun e w' => e = .returned (.bool (isTab R)) ∧ Below w.heap.size w w' := by
  rcases hL with rfl | ⟨b, off, rfl, hb, hL⟩
  · exact refTable_nil ao cap w
  · exact refTable_some R b off cap w hL hb hlen
end Go.Proofs.YtoepcplbpochpaaDoor
