/-
  What lodgeref.IsTable answers, of every list of ranges: just what leb.isTable answers, though it looks at every pair.
-/
import Derived.Test.YtoepcplbpochpaaDoorUnit5
import Derived.Test.YtoepcplbpochpaaDoorUnit1
import Derived.Deep.RegionHeld3
import Derived.Handy

namespace Go.Proofs.YtoepcplbpochpaaDoor
open Go.RowKit

/-! ### The plain mathematics: neighbours decide of all pairs -/
def before (x y : Rg) : Prop := x.v < y.v ∨ x.v = y.v ∧ x.t ≤ y.f

theorem before_of_follows {x y : Rg} (h : follows x y = true) : before x y := by
  unfold follows at h; unfold before
  by_cases a : x.v = y.v
  · by_cases b : x.t = y.f
    · omega
    · simp [a, b] at h; omega
  · simp [a] at h; omega
theorem before_trans {x y z : Rg} (h : before x y) (h' : before y z) (hy : y.f < y.t) : before x z := by
  unfold before at *; omega
theorem behind_true (x y : Rg) : behind x y true = follows x y := by
  unfold behind follows
  by_cases a : x.v = y.v
  · by_cases b : x.t = y.f
    · simp [a, b]
    · by_cases c : y.f < x.t
      · simp [a, b, c]; omega
      · have : x.t < y.f := by omega
        simp [a, b, c, this]
  · simp [a]
theorem behind_false {x y : Rg} (h : before x y) : behind x y false = true := by
  unfold behind; unfold before at h
  by_cases a : x.v = y.v
  · simp [a]; omega
  · simp [a]; omega

theorem isRg_lt {r : Rg} (h : isRg r = true) : r.f < r.t := by unfold isRg at h; rw [decide_eq_true_eq] at h; omega

theorem tab_at {R : List Rg} {n k : Nat} (h : tabTo R n = true) (hk : k < n) : isRg (rg R k) = true ∧ (k = 0 ∨ follows (rg R (k - 1)) (rg R k) = true) := by
  unfold tabTo at h; rw [List.all_eq_true] at h
  have := h k (by rw [List.mem_range]; exact hk)
  simpa using this

theorem tab_before {R : List Rg} {n : Nat} (h : tabTo R n = true) : ∀ k, k < n → ∀ j, j < k → before (rg R j) (rg R k) := by
  intro k
  induction k with
  | zero => intro _ j hj; omega
  | succ k ih =>
    intro hk j hj
    have f := before_of_follows ((tab_at h hk).2.resolve_left (by omega))
    rw [Nat.add_sub_cancel] at f
    by_cases e : j = k
    · subst e; exact f
    · exact before_trans (ih (by omega) j (by omega)) f (isRg_lt (tab_at h (by omega : k < n)).1)

/-- What a true table says of each pair. -/
theorem tab_behind {R : List Rg} {n k j : Nat} (h : tabTo R n = true) (hk : k < n) (hj : j < k) : behind (rg R j) (rg R k) (decide ((j : Int) = (k : Int) - 1)) = true := by
  by_cases e : (j : Int) = (k : Int) - 1
  · rw [decide_eq_true e, behind_true]
    have := (tab_at h hk).2.resolve_left (by omega)
    rw [show k - 1 = j by omega] at this; exact this
  · rw [decide_eq_false e]; exact behind_false (tab_before h k hk j hj)

/-- Pairs behind one another. -/
def pairsTo (R : List Rg) (k j : Nat) : Prop := ∀ i, i < j → behind (rg R i) (rg R k) (decide ((i : Int) = (k : Int) - 1)) = true

theorem tab_next {R : List Rg} {k : Nat} (h : tabTo R k = true) (hr : isRg (rg R k) = true) (hp : pairsTo R k k) : tabTo R (k + 1) = true := by
  rw [tabTo_succ, h, hr]
  by_cases h0 : k = 0
  · simp [h0]
  · have := hp (k - 1) (by omega)
    rw [decide_eq_true (by omega), behind_true] at this
    simp [this]

set_option maxRecDepth 100000 in
set_option maxHeartbeats 1000000 in
theorem refTable_some (R : List Rg) (b off cap : Nat) (w : World) (hL : Lie w b off R) (hb : b < w.heap.size) (hlen : R.length ≤ 9223372036854775807) :
    Calls Tryd.prog 118 #[.slice (some ⟨b, off, none⟩) R.length cap] w fun e w' => e = .returned (.bool (isTab R)) ∧ Below w.heap.size w w' := by
  by_cases h200 : R.length ≤ 200
  case neg =>
    have e : isTab R = false := by simp [isTab, h200]
    rw [e]
    go_enter Tryd.func118, Tryd.ntmps118
    go_wp2
    go_ret
    exact ⟨rfl, Below.refl _ _⟩
  have e : isTab R = tabTo R R.length := by simp [isTab, h200]
  rw [e]
  clear e
  go_enter Tryd.func118, Tryd.ntmps118
  go_wp2
  go_loopw [3, 4, 5] (fun i _ _ wr => ∃ k : Nat, k ≤ R.length ∧ i = .int .i64 k ∧ tabTo R k = true ∧ Below w.heap.size w wr) (fun i _ _ _ => R.length - (intOf i).toNat)
  case atStart => exact ⟨0, Nat.zero_le _, rfl, rfl, Below.refl _ _⟩
  case round =>
    obtain ⟨k, hk, rfl, htab, hbel⟩ := hrel
    have HT := hide htab
    clear htab
    by_cases hlt : k < R.length
    case neg =>
      have : k = R.length := by omega
      subst this
      go_wp2
      go_ret
      exact ⟨ret_bool (unhide HT).symm, hbel⟩
    have C1 := hide (fun w => one_any (rg R k) w)
    have hc := hide ((hL k hlt).below hbel hb)
    cases hr : isRg (rg R k)
    · have hf : tabTo R R.length = false := by
        cases h : tabTo R R.length
        · rfl
        · have := tabTo_mono R (show k + 1 ≤ R.length by omega) h
          rw [tabTo_succ, hr] at this; simp at this
      have HF := hide hf
      rw [hr] at C1
      obtain ⟨c0, c1, c2, c3, c4⟩ := unhide hc
      clear hr hf hc
      go_wp2_with fail
      refine (unhide C1 _).mono ?_
      rintro e w1 ⟨rfl, hb1⟩
      go_wp2
      go_ret
      exact ⟨ret_bool (unhide HF).symm, hbel.trans (hb1.mono hbel.size)⟩
    · rw [hr] at C1
      have HR := hide hr
      obtain ⟨c0, c1, c2, c3, c4⟩ := unhide hc
      clear hr hc
      go_wp2_with fail
      refine (unhide C1 _).mono ?_
      rintro e w1 ⟨rfl, hb1⟩
      have hb2 := hbel.trans (hb1.mono hbel.size)
      clear c0 c1 c2 c3 c4 hb1 hbel
      go_wp2
      go_loopw [4, 5] (fun _ i wr => ∃ j : Nat, j ≤ k ∧ i = .int .i64 j ∧ pairsTo R k j ∧ Below w.heap.size w wr) (fun _ i _ => k - (intOf i).toNat)
      case atStart => exact ⟨0, Nat.zero_le _, rfl, fun i hi => absurd hi (by omega), hb2⟩
      case round =>
        obtain ⟨j, hj, rfl, hp, hbel⟩ := hrel
        have HP := hide hp
        clear hp
        by_cases hjk : j < k
        case neg =>
          have hjk' : j = k := by omega
          have hp : pairsTo R k k := by have := unhide HP; rw [hjk'] at this; exact this
          have hn : tabTo R (k + 1) = true := tab_next (unhide HT) (unhide HR) hp
          clear hp hjk'
          have HN := hide hn
          clear hn
          go_wp2
          go_roundw
          case rel => exact ⟨k + 1, by omega, by go_num, unhide HN, hbel⟩
          case measure => simp [intOf]; omega
        have C2 := hide (fun w => pair_any (rg R j) (rg R k) ((j : Int) == (k : Int) - 1) w)
        have i1 : (j : Int) < (R.length : Int) := by omega
        have i3 : (k : Int) < (R.length : Int) := by omega
        have i5 : IntKind.i64.wrap ((k : Int) - 1) = (k : Int) - 1 := by rw [IntKind.wrap_i64]; omega
        obtain ⟨d0, d1, d2, d3, d4⟩ := (hL k hlt).below hbel hb
        obtain ⟨p0, p1, p2, p3, p4⟩ := (hL j (by omega)).below hbel hb
        cases hf : behind (rg R j) (rg R k) ((j : Int) == (k : Int) - 1)
        · rw [hf] at C2
          have hn : tabTo R R.length = false := by
            cases h : tabTo R R.length
            · rfl
            · have := tab_behind h hlt hjk
              exact absurd (hf.symm.trans this) (by decide)
          have HN := hide hn
          clear hn hf
          go_wp2_with fail
          go_region_held3 (fun w' => (w'.cell? ⟨b, off + k * 5, none⟩ = some (.int .i64 (rg R k).v) ∧ w'.cell? ⟨b, off + k * 5 + 1, none⟩ = some (.int .i64 (rg R k).f) ∧ w'.cell? ⟨b, off + k * 5 + 2, none⟩ = some (.int .i64 (rg R k).t) ∧ w'.cell? ⟨b, off + k * 5 + 3, none⟩ = some (.int .i64 (rg R k).k) ∧ w'.cell? ⟨b, off + k * 5 + 4, none⟩ = some (.int .i64 (rg R k).a)) ∧
            w'.cell? ⟨b, off + j * 5, none⟩ = some (.int .i64 (rg R j).v) ∧ w'.cell? ⟨b, off + j * 5 + 1, none⟩ = some (.int .i64 (rg R j).f) ∧ w'.cell? ⟨b, off + j * 5 + 2, none⟩ = some (.int .i64 (rg R j).t) ∧ w'.cell? ⟨b, off + j * 5 + 3, none⟩ = some (.int .i64 (rg R j).k) ∧ w'.cell? ⟨b, off + j * 5 + 4, none⟩ = some (.int .i64 (rg R j).a)) (simp [*])
            (first | (go_at_call 134; refine (unhide C2 _).mono ?_; rintro e w2 ⟨rfl, hb3⟩; have hb4 := (hbel.drew).trans (hb3.mono (by simpa using hbel.size)); obtain ⟨q0, q1, q2, q3, q4⟩ := (hL k hlt).below hb4 hb; obtain ⟨s0, s1, s2, s3, s4⟩ := (hL j (by omega)).below hb4 hb))
          go_wp2
          go_ret
          exact ⟨ret_bool (unhide HN).symm, by assumption⟩
        · rw [hf] at C2
          have hp : pairsTo R k (j + 1) := fun i hi => by
            by_cases e : i = j
            · subst e; exact hf
            · exact unhide HP i (by omega)
          have HN := hide hp
          clear hp hf
          go_wp2_with fail
          go_region_held3 (fun w' => (w'.cell? ⟨b, off + k * 5, none⟩ = some (.int .i64 (rg R k).v) ∧ w'.cell? ⟨b, off + k * 5 + 1, none⟩ = some (.int .i64 (rg R k).f) ∧ w'.cell? ⟨b, off + k * 5 + 2, none⟩ = some (.int .i64 (rg R k).t) ∧ w'.cell? ⟨b, off + k * 5 + 3, none⟩ = some (.int .i64 (rg R k).k) ∧ w'.cell? ⟨b, off + k * 5 + 4, none⟩ = some (.int .i64 (rg R k).a)) ∧
            w'.cell? ⟨b, off + j * 5, none⟩ = some (.int .i64 (rg R j).v) ∧ w'.cell? ⟨b, off + j * 5 + 1, none⟩ = some (.int .i64 (rg R j).f) ∧ w'.cell? ⟨b, off + j * 5 + 2, none⟩ = some (.int .i64 (rg R j).t) ∧ w'.cell? ⟨b, off + j * 5 + 3, none⟩ = some (.int .i64 (rg R j).k) ∧ w'.cell? ⟨b, off + j * 5 + 4, none⟩ = some (.int .i64 (rg R j).a)) (simp [*])
            (first | (go_at_call 134; refine (unhide C2 _).mono ?_; rintro e w2 ⟨rfl, hb3⟩; have hb4 := (hbel.drew).trans (hb3.mono (by simpa using hbel.size)); obtain ⟨q0, q1, q2, q3, q4⟩ := (hL k hlt).below hb4 hb; obtain ⟨s0, s1, s2, s3, s4⟩ := (hL j (by omega)).below hb4 hb))
          go_wp2
          go_roundw
          case rel => exact ⟨j + 1, by omega, by go_num, unhide HN, by assumption⟩
          case measure => simp [intOf]; omega

theorem refTable_nil (ao : Option Addr) (cap : Nat) (w : World) :
    Calls Tryd.prog 118 #[.slice ao 0 cap] w fun e w' => e = .returned (.bool (isTab [])) ∧ Below w.heap.size w w' := by
  go_enter Tryd.func118, Tryd.ntmps118
  go_wp2
  refine wp_loop_rounds 1 ?_; rw [rounds_succ]
  go_wp2
  go_ret
  exact ⟨rfl, Below.refl _ _⟩

theorem refTable_any (R : List Rg) (ao : Option Addr) (cap : Nat) (w : World) (hL : Held w ao R) (hlen : R.length ≤ 9223372036854775807) :
    Calls Tryd.prog 118 #[.slice ao R.length cap] w fun e w' => e = .returned (.bool (isTab R)) ∧ Below w.heap.size w w' := by
  rcases hL with rfl | ⟨b, off, rfl, hb, hL⟩
  · exact refTable_nil ao cap w
  · exact refTable_some R b off cap w hL hb hlen
end Go.Proofs.YtoepcplbpochpaaDoor

/-
  Units as plain data: the error of a unit, and its place; what mach.isSize and mach.isRange answer.
-/
namespace Go.Proofs.YtoepcplbpochpaaDoor
open Go.RowKit

def UnitBad (K S P V : Int) (n : Nat) : Prop := K < 2 ∨ 16 < K ∨ S < 0 ∨ 16 < S ∨ P < 0 ∨ 4 < P ∨ S < P ∨ V < 0 ∨ 4 < V ∨ n < 1 ∨ 164 < n
def decUnit (K S P V : Int) (n : Nat) : Decidable (UnitBad K S P V n) := by unfold UnitBad; exact inferInstance
def unitB (K S P V : Int) (n : Nat) : Bool := @ite _ (UnitBad K S P V n) (decUnit K S P V n) false true
theorem unitB_bad {K S P V : Int} {n : Nat} (h : UnitBad K S P V n) : unitB K S P V n = false := @if_pos _ (decUnit _ _ _ _ _) h _ _ _
theorem unitB_good {K S P V : Int} {n : Nat} (h : ¬ UnitBad K S P V n) : unitB K S P V n = true := @if_neg _ (decUnit _ _ _ _ _) h _ _ _
/-- The first test that a unit's size fails. -/
theorem unit_cases {K S P V : Int} {n : Nat} (h : UnitBad K S P V n) :
    K < 2 ∨ (2 ≤ K ∧ 16 < K) ∨ (2 ≤ K ∧ K ≤ 16 ∧ S < 0) ∨ (2 ≤ K ∧ K ≤ 16 ∧ 0 ≤ S ∧ 16 < S) ∨ (2 ≤ K ∧ K ≤ 16 ∧ 0 ≤ S ∧ S ≤ 16 ∧ P < 0) ∨ (2 ≤ K ∧ K ≤ 16 ∧ 0 ≤ S ∧ S ≤ 16 ∧ 0 ≤ P ∧ 4 < P) ∨
    (2 ≤ K ∧ K ≤ 16 ∧ 0 ≤ S ∧ S ≤ 16 ∧ 0 ≤ P ∧ P ≤ 4 ∧ S < P) ∨ (2 ≤ K ∧ K ≤ 16 ∧ 0 ≤ S ∧ S ≤ 16 ∧ 0 ≤ P ∧ P ≤ 4 ∧ P ≤ S ∧ V < 0) ∨ (2 ≤ K ∧ K ≤ 16 ∧ 0 ≤ S ∧ S ≤ 16 ∧ 0 ≤ P ∧ P ≤ 4 ∧ P ≤ S ∧ 0 ≤ V ∧ 4 < V) ∨
    (2 ≤ K ∧ K ≤ 16 ∧ 0 ≤ S ∧ S ≤ 16 ∧ 0 ≤ P ∧ P ≤ 4 ∧ P ≤ S ∧ 0 ≤ V ∧ V ≤ 4 ∧ n < 1) ∨ (2 ≤ K ∧ K ≤ 16 ∧ 0 ≤ S ∧ S ≤ 16 ∧ 0 ≤ P ∧ P ≤ 4 ∧ P ≤ S ∧ 0 ≤ V ∧ V ≤ 4 ∧ 1 ≤ n ∧ 164 < n) := by
  unfold UnitBad at h
  by_cases h1 : K < 2
  · exact .inl h1
  by_cases h2 : 16 < K
  · exact .inr (.inl (by omega))
  by_cases h3 : S < 0
  · exact .inr (.inr (.inl (by omega)))
  by_cases h4 : 16 < S
  · exact .inr (.inr (.inr (.inl (by omega))))
  by_cases h5 : P < 0
  · exact .inr (.inr (.inr (.inr (.inl (by omega)))))
  by_cases h6 : 4 < P
  · exact .inr (.inr (.inr (.inr (.inr (.inl (by omega))))))
  by_cases h7 : S < P
  · exact .inr (.inr (.inr (.inr (.inr (.inr (.inl (by omega)))))))
  by_cases h8 : V < 0
  · exact .inr (.inr (.inr (.inr (.inr (.inr (.inr (.inl (by omega))))))))
  by_cases h9 : 4 < V
  · exact .inr (.inr (.inr (.inr (.inr (.inr (.inr (.inr (.inl (by omega)))))))))
  by_cases h10 : n < 1
  · exact .inr (.inr (.inr (.inr (.inr (.inr (.inr (.inr (.inr (.inl (by omega))))))))))
  · exact .inr (.inr (.inr (.inr (.inr (.inr (.inr (.inr (.inr (.inr (by omega))))))))))
theorem unit_good {K S P V : Int} {n : Nat} (h : ¬ UnitBad K S P V n) : 2 ≤ K ∧ K ≤ 16 ∧ 0 ≤ S ∧ S ≤ 16 ∧ 0 ≤ P ∧ P ≤ 4 ∧ P ≤ S ∧ 0 ≤ V ∧ V ≤ 4 ∧ 1 ≤ n ∧ n ≤ 164 := by
  unfold UnitBad at h; omega

set_option maxRecDepth 100000 in
set_option maxHeartbeats 2000000 in
theorem isSizeU_any (K S P V : Int) (L : List In4) (T : ByteArray) (ao : Option Addr) (cap : Nat) (w : World) (hn : L.length ≤ 9223372036854775807) :
    Calls Tryd.prog 45 #[.agg #[.int .i64 K, .int .i64 S, .int .i64 P, .int .i64 V, .slice ao L.length cap, .string T]] w fun e w' =>
      e = .returned (.bool (unitB K S P V L.length)) ∧ Below w.heap.size w w' := by
  by_cases hs : UnitBad K S P V L.length
  · have HS := hide (unitB_bad hs)
    rcases unit_cases hs with h | ⟨g1, h⟩ | ⟨g1, g2, h⟩ | ⟨g1, g2, g3, h⟩ | ⟨g1, g2, g3, g4, h⟩ | ⟨g1, g2, g3, g4, g5, h⟩ | ⟨g1, g2, g3, g4, g5, g6, h⟩ | ⟨g1, g2, g3, g4, g5, g6, g7, h⟩ | ⟨g1, g2, g3, g4, g5, g6, g7, g8, h⟩ | ⟨g1, g2, g3, g4, g5, g6, g7, g8, g9, h⟩ | ⟨g1, g2, g3, g4, g5, g6, g7, g8, g9, g10, h⟩
    all_goals
      clear hs
      go_enter Tryd.func45, Tryd.ntmps45
      go_wp2
      go_ret
      refine ⟨ret_bool ?_, (Below.refl _ _).alloc (Nat.le_refl _) _⟩
      rw [unhide HS]
      try (simp; omega)
  · have HS := hide (unitB_good hs)
    obtain ⟨g1, g2, g3, g4, g5, g6, g7, g8, g9, g10, g11⟩ := unit_good hs
    clear hs
    go_enter Tryd.func45, Tryd.ntmps45
    go_wp2
    go_ret
    refine ⟨ret_bool ?_, (Below.refl _ _).alloc (Nat.le_refl _) _⟩
    rw [unhide HS]
    try (simp; omega)

/-- Does a range name only what the unit has? -/
def RgIn (K S V : Int) (n : Nat) (r : Rg) : Prop := r.v < V ∧ r.t ≤ (n : Int) ∧ (r.k = 0 → r.a < K) ∧ (r.k = 1 → r.a < S)
def decRg (K S V : Int) (n : Nat) (r : Rg) : Decidable (RgIn K S V n r) := by unfold RgIn; exact inferInstance
def rgIn (K S V : Int) (n : Nat) (r : Rg) : Bool := @ite _ (RgIn K S V n r) (decRg K S V n r) true false
theorem rgIn_yes {K S V : Int} {n : Nat} {r : Rg} (h : RgIn K S V n r) : rgIn K S V n r = true := @if_pos _ (decRg _ _ _ _ _) h _ _ _
theorem rgIn_no {K S V : Int} {n : Nat} {r : Rg} (h : ¬ RgIn K S V n r) : rgIn K S V n r = false := @if_neg _ (decRg _ _ _ _ _) h _ _ _
theorem rgIn_true {K S V : Int} {n : Nat} {r : Rg} (h : rgIn K S V n r = true) : RgIn K S V n r := by
  rcases decRg K S V n r with hn | hy
  · rw [rgIn_no hn] at h; cases h
  · exact hy
/-- The ways of the tests. -/
theorem rg_cases (K S V : Int) (n : Nat) (r : Rg) :
    (V ≤ r.v ∧ rgIn K S V n r = false) ∨ (r.v < V ∧ (n : Int) < r.t ∧ rgIn K S V n r = false) ∨
    (r.v < V ∧ r.t ≤ (n : Int) ∧ r.k = 0 ∧ K ≤ r.a ∧ rgIn K S V n r = false) ∨ (r.v < V ∧ r.t ≤ (n : Int) ∧ r.k = 0 ∧ r.a < K ∧ rgIn K S V n r = true) ∨
    (r.v < V ∧ r.t ≤ (n : Int) ∧ r.k = 1 ∧ S ≤ r.a ∧ rgIn K S V n r = false) ∨ (r.v < V ∧ r.t ≤ (n : Int) ∧ r.k = 1 ∧ r.a < S ∧ rgIn K S V n r = true) ∨
    (r.v < V ∧ r.t ≤ (n : Int) ∧ (r.k == 0) = false ∧ (r.k == 1) = false ∧ rgIn K S V n r = true) := by
  by_cases h1 : r.v < V
  case neg => exact .inl ⟨by omega, rgIn_no (fun h => h1 h.1)⟩
  by_cases h2 : r.t ≤ (n : Int)
  case neg => exact .inr (.inl ⟨h1, by omega, rgIn_no (fun h => h2 h.2.1)⟩)
  by_cases h3 : r.k = 0
  · by_cases h4 : r.a < K
    · exact .inr (.inr (.inr (.inl ⟨h1, h2, h3, h4, rgIn_yes ⟨h1, h2, fun _ => h4, fun h => by omega⟩⟩)))
    · exact .inr (.inr (.inl ⟨h1, h2, h3, by omega, rgIn_no (fun h => h4 (h.2.2.1 h3))⟩))
  by_cases h5 : r.k = 1
  · by_cases h4 : r.a < S
    · exact .inr (.inr (.inr (.inr (.inr (.inl ⟨h1, h2, h5, h4, rgIn_yes ⟨h1, h2, fun h => absurd h h3, fun _ => h4⟩⟩)))))
    · exact .inr (.inr (.inr (.inr (.inl ⟨h1, h2, h5, by omega, rgIn_no (fun h => h4 (h.2.2.2 h5))⟩))))
  · exact .inr (.inr (.inr (.inr (.inr (.inr ⟨h1, h2, by rw [beq_eq_false_iff_ne]; exact h3, by rw [beq_eq_false_iff_ne]; exact h5, rgIn_yes ⟨h1, h2, fun h => absurd h h3, fun h => absurd h h5⟩⟩)))))

set_option maxRecDepth 100000 in
set_option maxHeartbeats 2000000 in
theorem isRangeU_any (K S P V : Int) (n : Nat) (T : ByteArray) (r : Rg) (ao : Option Addr) (cap : Nat) (w : World) :
    Calls Tryd.prog 83 #[.agg #[.int .i64 r.v, .int .i64 r.f, .int .i64 r.t, .int .i64 r.k, .int .i64 r.a], .agg #[.int .i64 K, .int .i64 S, .int .i64 P, .int .i64 V, .slice ao n cap, .string T]] w fun e w' =>
      e = .returned (.bool (rgIn K S V n r)) ∧ Below w.heap.size w w' := by
  obtain ⟨b, hb⟩ : ∃ b, rgIn K S V n r = b := ⟨_, rfl⟩
  have hc := rg_cases K S V n r
  rw [hb] at hc ⊢
  clear hb
  obtain ⟨v, f, t, k, a⟩ := r
  simp only at hc ⊢
  rcases hc with ⟨g1, rfl⟩ | ⟨g1, g2, rfl⟩ | ⟨g1, g2, rfl, g4, rfl⟩ | ⟨g1, g2, rfl, g4, rfl⟩ | ⟨g1, g2, rfl, g4, rfl⟩ | ⟨g1, g2, rfl, g4, rfl⟩ | ⟨g1, g2, g3, g4, rfl⟩
  all_goals
    go_enter Tryd.func83, Tryd.ntmps83
    go_wp2
    go_ret
    refine ⟨ret_bool ?_, ((Below.refl _ _).alloc (Nat.le_refl _) _).alloc (by simp) _⟩
    first | rfl | (simp; done) | (simp; omega)

/-- Do the ranges of a list name only what the unit has? -/
def TabIn (K S V : Int) (n : Nat) (R : List Rg) : Prop := ∀ i, i < R.length → RgIn K S V n (rg R i)
end Go.Proofs.YtoepcplbpochpaaDoor
