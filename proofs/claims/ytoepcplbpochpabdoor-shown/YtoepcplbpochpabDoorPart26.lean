/-
  Plain mathematics: what is told of a variable that is tied at the beginning, and of one that is bound to a register that is returned.
-/
import Derived.Test.YtoepcplbpochpabDoorPart25

namespace Go.Proofs.YtoepcplbpochpabDoor
open Go.RowKit

/-- What is not said again is known at each Stop. -/
theorem said_once {P R V : Int} {L F : List In4} {own o a : Int} (hp : RightP P R V L) (hF : (F.length : Int) = 1 ∨ (F.length : Int) = 2) (hL : Inside (grL F own L)) (hlast : (inAt F (F.length - 1)).op = o ∧ (inAt F (F.length - 1)).d = 0 ∧ (inAt F (F.length - 1)).a = a) (ho : o = 13 ∨ (o = 12 ∧ ∀ j, j < L.length → wrB (inAt (grL F own L) (F.length + j)) a = false))
    (hfirst : ∀ i, i + 1 < F.length → nx1 (inAt F i) i = (i : Int) + 1 ∧ nx2 (inAt F i) i = -1) {i : Nat} (hi : i < (grL F own L).length) (hop : (inAt (grL F own L) i).op = 11) (hk : (factB (grL F own L) i 0).k ≠ 0) (hF11 : ∀ j, j < F.length → (inAt F j).op ≠ 11) : factB (grL F own L) i 0 = ⟨if o = 13 then 2 else 3, a⟩ := by
  have hl := grL_len F own L
  have hiF : F.length ≤ i := by
    rcases Nat.lt_or_ge i F.length with h | h
    · rw [grL_first h] at hop; exact absurd hop (hF11 i h)
    · exact h
  refine must_fact (on := fun k => k < (grL F own L).length) (S := fun k => F.length ≤ k ∧ k < (grL F own L).length) hL ⟨by omega, fun k j hk' _ hn => hn.lt hL hk', by omega, fun h => by omega, fun k j hk' _ hn hj => ?_, ?_⟩ hk
  · rcases Nat.lt_or_ge k F.length with h | h
    · by_cases e : k = F.length - 1
      · left
        rw [grL_first h, e]
        have : o = 12 ∨ o = 13 := by rcases ho with h | h; exact .inr h; exact .inl h.1
        exact ⟨by rw [hlast.1]; omega, by rw [hlast.2.1]; rfl, hlast.1, hlast.2.2⟩
      · exfalso
        obtain ⟨n1, n2⟩ := hfirst k (by omega)
        unfold Nx at hn
        rw [grL_first h, n1, n2] at hn
        omega
    · right
      obtain ⟨q, rfl⟩ : ∃ q, k = F.length + q := ⟨k - F.length, by omega⟩
      have := grown_calm (own := own) hp hF (j := q) (by omega)
      exact ⟨fun h => by omega, h, hk'⟩
  · rcases ho with h | ⟨h, hw⟩
    · exact .inl h
    · refine .inr ⟨h, fun k hk => ?_⟩
      obtain ⟨q, rfl⟩ : ∃ q, k = F.length + q := ⟨k - F.length, by omega⟩
      exact hw q (by omega)
theorem snAt_some {l : List Sn} {n : Nat} {x : Sn} (h : l[n]? = some x) : snAt l n = x := by unfold snAt; rw [List.getD_eq_getElem?_getD, h]; rfl
/-- The first program: a Tie ahead of all. -/
def tieF (c : Int) : List In4 := [⟨13, 0, c, 0⟩]
theorem tie_right {P R V : Nat} {L : List In4} (hp : RightP P R V L) (hn : L.length ≤ 38) {c : Int} (h0 : 0 ≤ c) (h1 : c ≤ 65535) : RightP P R (1 : Nat) (grL (tieF c) (-1) L) := by
  have r1 := hp.r1
  refine grown_right hp (.inl rfl) (by show 1 + L.length ≤ 40; omega) (Int.le_refl _) hp.r12 (by omega) (fun i hi => ?_)
  have hi' : i = 0 := by have : i < 1 := hi; omega
  subst hi'
  show Right (R : Int) _ 1 ⟨13, 0, c, 0⟩ ∧ (13 : Int) ≤ 14
  unfold Right
  simp only
  refine ⟨⟨?_, ?_, ?_, ?_, ?_, ?_, ?_, ?_, ?_, ?_, ?_, ?_⟩, by decide⟩ <;> omega
/-- Each Stop of its unit's run tells the constant. -/
theorem tie_told {P R V K : Nat} {L : List In4} (hp : RightP P R V L) (hn : L.length ≤ 38) (hK : 2 ≤ K) (hK' : K ≤ 16) {c : Int} (h0 : 0 ≤ c) (h1 : c ≤ 65535) {xs : List Int} (hx : ArgsOk xs P) (m : Nat) :
    ∀ n, n < (runSt (cmpC P R K (grL (tieF c) (-1) L)) m (stU (cmpR P R 1 K (grL (tieF c) (-1) L)) none xs)).stops.length → (snAt (runSt (cmpC P R K (grL (tieF c) (-1) L)) m (stU (cmpR P R 1 K (grL (tieF c) (-1) L)) none xs)).stops n).v 0 = c := fun n hn' => by
  have hq := tie_right hp hn h0 h1
  obtain ⟨x, y, i, e1, _, _, e4⟩ := sim_bwd_stops hq hK hK' none xs hx.len hx.val m n hn'
  have hf := said_once (o := 13) (a := c) (own := -1) (F := tieF c) hp (.inl rfl) (right_inside hq) ⟨rfl, rfl, rfl⟩ (.inl rfl) (fun i h => absurd h (by show ¬ i + 1 < 1; omega)) e4.lt e4.op (e4.known 0 (by omega)) (fun j hj => by have : j = 0 := (by have : j < 1 := hj; omega); subst this; show (13 : Int) ≠ 11; decide)
  rw [if_pos rfl] at hf
  have t1 := e4.tied 0 (by omega) (by rw [hf])
  rw [hf] at t1
  have t2 := e4.told 0 (by omega) (by omega) (by unfold canB; rw [hf]; rfl)
  rw [snAt_some e1]
  exact t2.1.trans t1
/-- The second: a register of its own, and a Bind. -/
def ownF (own c : Int) : List In4 := [⟨0, own, c, 0⟩, ⟨12, 0, own, 0⟩]
theorem own_right {P R V : Nat} {L : List In4} (hp : RightP P R V L) (hn : L.length ≤ 38) (hR : R ≤ 11) {c : Int} (h0 : 0 ≤ c) (h1 : c ≤ 65535) : RightP P ((R + 1 : Nat) : Int) (1 : Nat) (grL (ownF R c) R L) := by
  have r1 := hp.r1
  refine grown_right hp (.inr rfl) (by show 2 + L.length ≤ 40; omega) (by omega) (by omega) (by omega) (fun i hi => ?_)
  have hi' : i = 0 ∨ i = 1 := by have : i < 2 := hi; omega
  rcases hi' with rfl | rfl
  · exact ⟨⟨by show (0 : Int) ≤ 0; decide, by show (0 : Int) ≤ 16; decide, fun _ => ⟨by show (0 : Int) ≤ R; omega, by show (R : Int) < ((R + 1 : Nat) : Int); omega⟩, fun h => absurd h (by show ¬ ((0 : Int) = 1 ∨ (2 ≤ (0 : Int) ∧ (0 : Int) ≤ 6) ∨ (0 : Int) = 8 ∨ (0 : Int) = 9 ∨ (0 : Int) = 10 ∨ (0 : Int) = 12); decide), fun h => absurd h (by show ¬ (2 ≤ (0 : Int) ∧ (0 : Int) ≤ 6); decide), fun _ => ⟨h0, h1⟩, fun h => absurd h (by show (0 : Int) ≠ 7; decide), fun h => absurd h (by show (0 : Int) ≠ 8; decide), fun h => absurd h (by show (0 : Int) ≠ 11; decide), fun h => absurd h (by show ¬ (12 ≤ (0 : Int) ∧ (0 : Int) ≤ 14); decide), fun h => absurd h (by show (0 : Int) ≠ 15; decide), fun h => absurd h (by show (0 : Int) ≠ 16; decide)⟩, by show (0 : Int) ≤ 14; decide⟩
  · exact ⟨⟨by show (0 : Int) ≤ 12; decide, by show (12 : Int) ≤ 16; decide, fun h => absurd h (by show ¬ ((12 : Int) = 0 ∨ (12 : Int) = 1 ∨ (2 ≤ (12 : Int) ∧ (12 : Int) ≤ 6)); decide), fun _ => ⟨by show (0 : Int) ≤ R; omega, by show (R : Int) < ((R + 1 : Nat) : Int); omega⟩, fun h => absurd h (by show ¬ (2 ≤ (12 : Int) ∧ (12 : Int) ≤ 6); decide), fun h => absurd h (by show ¬ ((12 : Int) = 0 ∨ (12 : Int) = 13); decide), fun h => absurd h (by show (12 : Int) ≠ 7; decide), fun h => absurd h (by show (12 : Int) ≠ 8; decide), fun h => absurd h (by show (12 : Int) ≠ 11; decide), fun _ => ⟨by show (0 : Int) ≤ 0; decide, by show (0 : Int) < ((1 : Nat) : Int); decide⟩, fun h => absurd h (by show (12 : Int) ≠ 15; decide), fun h => absurd h (by show (12 : Int) ≠ 16; decide)⟩, by show (12 : Int) ≤ 14; decide⟩
theorem kind_not10 {x : In4} {s : St} (h : ¬ x.op = 10) (hk : s.kind = 2) : (stepSt x s).kind = 2 ∨ (stepSt x s).kind = 1 := by
  have pk := (pre_gen x s).2.2.2.1.trans hk
  unfold stepSt
  generalize preSt x s = t at *
  unfold doSt
  by_cases h0 : x.op = 0
  · rw [if_pos h0]; exact .inl pk
  rw [if_neg h0]
  by_cases h1 : x.op = 1
  · rw [if_pos h1]; exact .inl pk
  rw [if_neg h1]
  by_cases h7 : x.op = 7
  · rw [if_pos h7]; exact .inl pk
  rw [if_neg h7]
  by_cases h8 : x.op = 8
  · rw [if_pos h8]
    split
    · exact .inl pk
    · exact .inl pk
  rw [if_neg h8]
  by_cases h9 : x.op = 9
  · rw [if_pos h9]; exact .inl pk
  rw [if_neg h9, if_neg h]
  split
  · unfold St.reckon
    split
    · exact .inr rfl
    · exact .inl pk
  · exact .inl pk
/-- Behind its two first instructions: what the second program's run keeps. -/
structure OwnInv (L : List In4) (own : Nat) (c : Int) (s : St) : Prop where
  at_ : s.on = true → 2 ≤ s.at_
  reg : s.regs own = c
  var : s.vars 0 = c
  stops : ∀ y ∈ s.stops, y.v0 = c
  val : s.kind = 0 → s.val = c
theorem ownI_ins {P R V : Nat} {L : List In4} (hp : RightP P R V L) {c : Int} {j : Nat} (hj : j < L.length) : (inAt (grL (ownF R c) R L) (2 + j)).op ≤ 11 ∧ wrB (inAt (grL (ownF R c) R L) (2 + j)) R = false ∧ ((inAt (grL (ownF R c) R L) (2 + j)).op = 10 → (inAt (grL (ownF R c) R L) (2 + j)).a = R) ∧ (∀ q : Nat, Nx (grL (ownF R c) R L) (2 + j) q → 2 ≤ q) := by
  have hc := grown_calm (own := R) (F := ownF R c) hp (.inr rfl) hj
  have hx := hp.ins j hj
  have hlow := hp.low j hj
  have e : inAt (grL (ownF R c) R L) (2 + j) = grX 2 R j (inAt L j) := grL_rest (F := ownF R c) (own := R) hj
  have hc' : (inAt (grL (ownF R c) R L) (2 + j)).op ≤ 11 := hc
  unfold Nx
  rw [e] at hc' ⊢
  generalize inAt L j = x at *
  obtain ⟨o0, o16, rD, rA, rB, rC, rJ, rI, rS, rV, rL, rT⟩ := hx
  unfold grX at hc' ⊢
  by_cases h7 : x.op = 7
  · rw [if_pos h7] at hc' ⊢
    have := rJ h7
    refine ⟨hc', by unfold wrB isWr isRk; simp only; rw [h7]; rfl, fun h => by simp only at h; omega, fun q hq => ?_⟩
    unfold nx1 nx2 at hq
    simp only at hq
    rw [if_pos h7, if_neg (by omega)] at hq
    omega
  rw [if_neg h7] at hc' ⊢
  by_cases h8 : x.op = 8
  · rw [if_pos h8] at hc' ⊢
    have := rI h8
    refine ⟨hc', by unfold wrB isWr isRk; simp only; rw [h8]; rfl, fun h => by simp only at h; omega, fun q hq => ?_⟩
    unfold nx1 nx2 at hq
    simp only at hq
    rw [if_neg h7, if_pos h8, if_pos h8] at hq
    omega
  rw [if_neg h8] at hc' ⊢
  by_cases h10 : x.op = 10
  · rw [if_pos h10, if_pos (by omega)] at hc' ⊢
    refine ⟨hc', by unfold wrB isWr isRk; simp only; rw [h10]; rfl, fun _ => rfl, fun q hq => ?_⟩
    unfold nx1 nx2 at hq
    simp only at hq
    rw [if_neg h7, if_neg h8, if_pos h10, if_neg h8] at hq
    omega
  rw [if_neg h10] at hc' ⊢
  by_cases h12 : x.op = 12 ∨ x.op = 13 ∨ x.op = 14
  · rw [if_pos h12] at hc' ⊢
    refine ⟨hc', rfl, fun h => by simp only at h; omega, fun q hq => ?_⟩
    have hq' : (q : Int) = ((2 + j : Nat) : Int) + 1 ∨ (q : Int) = -1 := hq
    omega
  rw [if_neg h12] at hc' ⊢
  refine ⟨hc', ?_, fun h => absurd h h10, fun q hq => ?_⟩
  · unfold wrB
    cases hw : isWr x.op with
    | false => rfl
    | true =>
      have hd : x.op = 0 ∨ x.op = 1 ∨ (2 ≤ x.op ∧ x.op ≤ 6) := by
        unfold isWr isRk at hw
        rw [Bool.or_eq_true, Bool.or_eq_true, Bool.and_eq_true, beq_iff_eq, beq_iff_eq, decide_eq_true_iff, decide_eq_true_iff] at hw
        omega
      have := rD hd
      rw [Bool.true_and, beq_eq_false_iff_ne]; omega
  · unfold nx1 nx2 at hq
    rw [if_neg h7, if_neg h8, if_neg h10, if_neg h8] at hq
    omega
theorem own_step {P R V : Nat} {L : List In4} (hp : RightP P R V L) {c : Int} (hq : RightP P ((R + 1 : Nat) : Int) (1 : Nat) (grL (ownF R c) R L)) {s : St} (hs : StOk (grL (ownF R c) R L) (1 : Nat) s) (h : OwnInv L R c s) (hon : s.on = true) : OwnInv L R c (stepSt (inAt (grL (ownF R c) R L) s.at_) s) := by
  have hat := hs.at_ hon
  have hl := grL_len (ownF R c) R L
  have h2 := h.at_ hon
  obtain ⟨j, hj⟩ : ∃ j, s.at_ = 2 + j := ⟨s.at_ - 2, by omega⟩
  have hjl : j < L.length := by have : (ownF R c).length = 2 := rfl; omega
  obtain ⟨i1, i2, i3, i4⟩ := ownI_ins (c := c) hp hjl
  rw [← hj] at i1 i2 i3 i4
  obtain ⟨l1, l2, l3, _⟩ := step_look hq hat
  have hst : (stepSt (inAt (grL (ownF R c) R L) s.at_) s).stops = if (inAt (grL (ownF R c) R L) s.at_).op = 11 then s.stops ++ [⟨(inAt (grL (ownF R c) R L) s.at_).a, s.tell 0, s.tell 1, s.tell 2, s.tell 3⟩] else s.stops := by
    by_cases e : (inAt (grL (ownF R c) R L) s.at_).op = 11
    · rw [if_pos e]
      generalize inAt (grL (ownF R c) R L) s.at_ = x at *
      obtain ⟨op, d, a, b⟩ := x
      simp only at e
      subst e
      exact step_stops11 d a b s
    · rw [if_neg e]
      generalize inAt (grL (ownF R c) R L) s.at_ = x at *
      obtain ⟨op, d, a, b⟩ := x
      exact step_stops e
  refine ⟨fun ho => i4 _ (l3 ho), ?_, ?_, fun y hy => ?_, fun hk => ?_⟩
  · rw [l1 R i2]; exact h.reg
  · have := l2 0
    rw [if_neg (by omega), if_neg (by omega), if_neg (by omega)] at this
    rw [this]; exact h.var
  · rw [hst] at hy
    split at hy
    · rcases List.mem_append.1 hy with hy | hy
      · exact h.stops y hy
      · rw [List.mem_singleton] at hy
        subst hy
        show s.tell 0 = c
        unfold St.tell; rw [hs.env]; exact h.var
    · exact h.stops y hy
  · have h10 : (inAt (grL (ownF R c) R L) s.at_).op = 10 := by
      rcases Classical.em ((inAt (grL (ownF R c) R L) s.at_).op = 10) with e | e
      · exact e
      · exfalso
        have hks := (hs.kind hon).1
        have := kind_not10 e hks; omega
    have ha := i3 h10
    have hr := h.reg
    generalize inAt (grL (ownF R c) R L) s.at_ = x at *
    obtain ⟨op, d, a, b⟩ := x
    simp only at h10 ha
    subst h10 ha
    show s.regs ((R : Int)).toNat = c
    rw [Int.toNat_natCast]; exact hr
theorem own_run {P R V : Nat} {L : List In4} (hp : RightP P R V L) {c : Int} (hq : RightP P ((R + 1 : Nat) : Int) (1 : Nat) (grL (ownF R c) R L)) : ∀ (m : Nat) (s : St), StOk (grL (ownF R c) R L) (1 : Nat) s → OwnInv L R c s → OwnInv L R c (runSt (grL (ownF R c) R L) m s) ∧ ((runSt (grL (ownF R c) R L) m s).kind = 0 → s.on = true → liveB (grL (ownF R c) R L) s.at_ R = true ∧ ∀ p ∈ plSt (grL (ownF R c) R L) m s, liveB (grL (ownF R c) R L) p R = true)
  | 0, s, hs, h => ⟨h, fun hk hon => by have := (hs.kind hon).1; have e : (runSt (grL (ownF R c) R L) 0 s).kind = s.kind := rfl; omega⟩
  | m + 1, s, hs, h => by
    cases hon : s.on with
    | false => rw [run_off _ _ _ hon]; exact ⟨h, fun _ e => by cases e⟩
    | true =>
      have hs' := (step_ok hq hs hon).1
      have h' := own_step hp hq hs h hon
      obtain ⟨r1, r2⟩ := own_run hp hq m _ hs' h'
      rw [run_on (by omega) hon, Nat.add_sub_cancel]
      refine ⟨r1, fun hk _ => ?_⟩
      have hat := hs.at_ hon
      have hl := grL_len (ownF R c) R L
      have h2 := h.at_ hon
      obtain ⟨j, hj⟩ : ∃ j, s.at_ = 2 + j := ⟨s.at_ - 2, by omega⟩
      have hjl : j < L.length := by have : (ownF R c).length = 2 := rfl; omega
      obtain ⟨i1, i2, i3, i4⟩ := ownI_ins (c := c) hp hjl
      rw [← hj] at i1 i2 i3 i4
      have hL := right_inside hq
      cases hon' : (stepSt (inAt (grL (ownF R c) R L) s.at_) s).on with
      | true =>
        obtain ⟨v1, v2⟩ := r2 hk hon'
        have hn := (step_look hq hat).2.2.1 hon'
        have lv := live_back hL hat hn v1 i2
        refine ⟨lv, fun p hpm => ?_⟩
        have hpm' : p ∈ (if s.on = true then (if (inAt (grL (ownF R c) R L) s.at_).op = 11 then [s.at_] else []) ++ plSt (grL (ownF R c) R L) m (stepSt (inAt (grL (ownF R c) R L) s.at_) s) else []) := hpm
        rw [if_pos hon] at hpm'
        rcases List.mem_append.1 hpm' with e | e
        · split at e
          · rw [List.mem_singleton] at e; rw [e]; exact lv
          · cases e
        · exact v2 p e
      | false =>
        have hk' : (stepSt (inAt (grL (ownF R c) R L) s.at_) s).kind = 0 := by rw [run_off _ _ _ hon'] at hk; exact hk
        have h10 : (inAt (grL (ownF R c) R L) s.at_).op = 10 := by
          rcases Classical.em ((inAt (grL (ownF R c) R L) s.at_).op = 10) with e | e
          · exact e
          · exfalso
            have hks := (hs.kind hon).1
            have := kind_not10 e hks; omega
        have lv : liveB (grL (ownF R c) R L) s.at_ R = true := (live_iff hL).2 (.here hat (by unfold rdB; rw [if_pos (.inr (.inr (.inr h10))), i3 h10, beq_iff_eq]))
        refine ⟨lv, fun p hpm => ?_⟩
        have hpm' : p ∈ (if s.on = true then (if (inAt (grL (ownF R c) R L) s.at_).op = 11 then [s.at_] else []) ++ plSt (grL (ownF R c) R L) m (stepSt (inAt (grL (ownF R c) R L) s.at_) s) else []) := hpm
        rw [if_pos hon, if_neg (by omega), pl_off hon'] at hpm'
        cases hpm'
end Go.Proofs.YtoepcplbpochpabDoor

/-
  Plain mathematics: the variable that is bound to a register that is returned is told at each Stop of a run that returns.
-/
namespace Go.Proofs.YtoepcplbpochpabDoor
open Go.RowKit

theorem own_begin {P R : Nat} {L : List In4} {c : Int} (hq : RightP P ((R + 1 : Nat) : Int) (1 : Nat) (grL (ownF R c) R L)) {xs : List Int} (hx : ArgsOk xs P) :
    ∃ s2, runSt (grL (ownF R c) R L) 2 (st0 xs) = s2 ∧ s2.on = true ∧ StOk (grL (ownF R c) R L) (1 : Nat) s2 ∧ OwnInv L R c s2 ∧ plSt (grL (ownF R c) R L) 2 (st0 xs) = [] := by
  have g0 : inAt (grL (ownF R c) R L) 0 = ⟨0, R, c, 0⟩ := rfl
  have g1 : inAt (grL (ownF R c) R L) 1 = ⟨12, 0, R, 0⟩ := rfl
  have hs0 := st0_good hq hx
  have hs1 := (step_ok hq hs0 rfl).1
  have e1 : stepSt (inAt (grL (ownF R c) R L) (st0 xs).at_) (st0 xs) = (st0 xs).next.reg R c := by
    show stepSt (inAt (grL (ownF R c) R L) 0) (st0 xs) = _
    rw [g0]; show (st0 xs).next.reg ((R : Int)).toNat c = _; rw [Int.toNat_natCast]
  rw [e1] at hs1
  have hs2 := (step_ok hq hs1 rfl).1
  have e2 : stepSt (inAt (grL (ownF R c) R L) ((st0 xs).next.reg R c).at_) ((st0 xs).next.reg R c) = (((st0 xs).next.reg R c).var 0 c).next := by
    show stepSt (inAt (grL (ownF R c) R L) 1) ((st0 xs).next.reg R c) = _
    rw [g1]
    show (((st0 xs).next.reg R c).var 0 (upd (nth xs) R c ((R : Int)).toNat)).next = _
    rw [Int.toNat_natCast, upd_same]
  rw [e2] at hs2
  refine ⟨(((st0 xs).next.reg R c).var 0 c).next, ?_, rfl, hs2, ⟨fun _ => by show 2 ≤ 0 + 1 + 1; omega, upd_same _ _ _, rfl, fun y hy => (by cases hy), fun hk => (by cases hk)⟩, ?_⟩
  · rw [run_on (by omega) rfl, e1, run_on (by omega) rfl, e2]; rfl
  · show (if true = true then (if (inAt (grL (ownF R c) R L) 0).op = 11 then [0] else []) ++ plSt (grL (ownF R c) R L) 1 (stepSt (inAt (grL (ownF R c) R L) (st0 xs).at_) (st0 xs)) else []) = []
    rw [if_pos rfl, g0, if_neg (by show (0 : Int) ≠ 11; decide), List.nil_append, e1]
    show (if true = true then (if (inAt (grL (ownF R c) R L) 1).op = 11 then [1] else []) ++ [] else []) = []
    rw [if_pos rfl, g1, if_neg (by show (12 : Int) ≠ 11; decide)]; rfl
/-- A run that returns. -/
theorem own_told {P R V K : Nat} {L : List In4} (hp : RightP P R V L) (hn : L.length ≤ 38) (hR : R ≤ 11) (hK : 2 ≤ K) (hK' : K ≤ 16) {c : Int} (h0 : 0 ≤ c) (h1 : c ≤ 65535) {xs : List Int} (hx : ArgsOk xs P) (f : Nat) (hk : (runSt (grL (ownF R c) R L) f (st0 xs)).kind = 0) :
    (runSt (grL (ownF R c) R L) f (st0 xs)).val = c ∧ (runSt (cmpC P (R + 1) K (grL (ownF R c) R L)) (4 * f + 4) (stU (cmpR P (R + 1) 1 K (grL (ownF R c) R L)) none xs)).val = c ∧
    ∀ n, n < (runSt (cmpC P (R + 1) K (grL (ownF R c) R L)) (4 * f + 4) (stU (cmpR P (R + 1) 1 K (grL (ownF R c) R L)) none xs)).stops.length → (snAt (runSt (cmpC P (R + 1) K (grL (ownF R c) R L)) (4 * f + 4) (stU (cmpR P (R + 1) 1 K (grL (ownF R c) R L)) none xs)).stops n).v 0 = c := by
  have hq := own_right hp hn hR h0 h1
  obtain ⟨s2, e2, on2, ok2, in2, pl2⟩ := own_begin hq hx
  have hf : 2 ≤ f := by
    rcases Nat.lt_or_ge f 2 with h | h
    · exfalso
      obtain ⟨d, hd⟩ : ∃ d, f + d = 2 := ⟨2 - f, by omega⟩
      have hoff : (runSt (grL (ownF R c) R L) f (st0 xs)).on = false := by
        obtain ⟨_, _, h3⟩ := run_gen (grL (ownF R c) R L) f (st0 xs) rfl rfl rfl
        rcases h3 with ⟨_, h3, _⟩ | ⟨h3, _⟩
        · omega
        · exact h3
      rw [← hd, run_add, run_off _ _ _ hoff] at e2
      rw [e2, on2] at hoff
      cases hoff
    · exact h
  have ea : runSt (grL (ownF R c) R L) f (st0 xs) = runSt (grL (ownF R c) R L) (f - 2) s2 := by rw [show f = 2 + (f - 2) by omega, run_add, e2, show 2 + (f - 2) - 2 = f - 2 by omega]
  have ep : plSt (grL (ownF R c) R L) f (st0 xs) = plSt (grL (ownF R c) R L) (f - 2) s2 := by rw [show f = 2 + (f - 2) by omega, pl_add, e2, pl2, show 2 + (f - 2) - 2 = f - 2 by omega]; rfl
  obtain ⟨r1, r2⟩ := own_run hp hq (f - 2) s2 ok2 in2
  rw [← ea] at r1 r2
  obtain ⟨_, hlv⟩ := r2 hk on2
  rw [← ep] at hlv
  obtain ⟨g1, g2, g3⟩ := sim_fwd hq hK hK' none xs hx.len hx.val f
  have hfin := g1.fin (by omega)
  refine ⟨r1.val hk, hfin.2.1.trans (r1.val hk), fun n hn' => ?_⟩
  rw [hfin.2.2.2] at hn'
  obtain ⟨x, y, i, e1, e2', e3, e4⟩ := g2 n hn'
  rw [snAt_some e1]
  have hi : i ∈ plSt (grL (ownF R c) R L) f (st0 xs) := List.mem_of_getElem? e3
  have hy : y ∈ (runSt (grL (ownF R c) R L) f (st0 xs)).stops := List.mem_of_getElem? e2'
  have hfct := said_once (o := 12) (a := R) (own := R) (F := ownF R c) hp (.inr rfl) (right_inside hq) ⟨rfl, rfl, rfl⟩ (.inr ⟨rfl, fun j hj => (ownI_ins (c := c) hp hj).2.1⟩) (fun i h => by
    have : i = 0 := by have : i + 1 < 2 := h; omega
    subst this
    exact ⟨rfl, rfl⟩) e4.lt e4.op (e4.known 0 (by omega)) (fun j hj => by
    have : j = 0 ∨ j = 1 := by have : j < 2 := hj; omega
    rcases this with rfl | rfl
    · show (0 : Int) ≠ 11; decide
    · show (12 : Int) ≠ 11; decide)
  rw [if_neg (by decide)] at hfct
  have t2 := e4.told 0 (by omega) (by omega) (by
    unfold canB; rw [hfct]
    show ((3 : Int) == 2 || ((3 : Int) == 3 && liveB (grL (ownF R c) R L) i ((R : Int)).toNat)) = true
    rw [Int.toNat_natCast, hlv i hi]; rfl)
  exact t2.1.trans (r1.stops y hy)
end Go.Proofs.YtoepcplbpochpabDoor
