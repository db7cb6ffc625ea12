/-
  Plain mathematics: a program with more instructions ahead of it, whose Binds, Ties and Frees have become Stops.
-/
import Derived.Test.YtoepcplbpochpabDoorPart22
import Derived.Test.YtoepcplbpochpabDoorPart20
import Derived.Test.YtoepcplbpochpabDoorPart24

namespace Go.Proofs.YtoepcplbpochpabDoor
open Go.RowKit

/-- What becomes of the instruction at the place i. -/
def grX (by' own : Int) (i : Nat) (x : In4) : In4 :=
  if x.op = 7 then ⟨x.op, x.d, x.a + by', x.b⟩ else if x.op = 8 then ⟨x.op, x.d, x.a, x.b + by'⟩ else
  if x.op = 10 then (if 0 ≤ own then ⟨x.op, x.d, own, x.b⟩ else x) else if x.op = 12 ∨ x.op = 13 ∨ x.op = 14 then ⟨11, 0, i, 0⟩ else x
def grTo (by' own : Int) (L : List In4) : Nat → List In4
  | 0 => []
  | k + 1 => grTo by' own L k ++ [grX by' own k (inAt L k)]
theorem grTo_len (by' own : Int) (L : List In4) : ∀ k, (grTo by' own L k).length = k
  | 0 => rfl
  | k + 1 => by show (grTo by' own L k ++ [_]).length = _; rw [List.length_append, grTo_len by' own L k]; rfl
theorem grTo_at (by' own : Int) (L : List In4) : ∀ k i, i < k → inAt (grTo by' own L k) i = grX by' own i (inAt L i)
  | 0, _, h => absurd h (Nat.not_lt_zero _)
  | k + 1, i, h => by
    have hl := grTo_len by' own L k
    show inAt (grTo by' own L k ++ [_]) i = _
    by_cases e : i < k
    · rw [inAt_left (by omega)]; exact grTo_at by' own L k i e
    · obtain rfl : i = k := by omega
      have := inAt_right (grTo by' own L i) [grX by' own i (inAt L i)] 0
      rw [hl, Nat.add_zero] at this
      exact this
/-- The grown program's code. -/
def grL (F : List In4) (own : Int) (L : List In4) : List In4 := F ++ grTo F.length own L L.length
theorem grL_len (F : List In4) (own : Int) (L : List In4) : (grL F own L).length = F.length + L.length := by unfold grL; rw [List.length_append, grTo_len]
theorem grL_first {F : List In4} {own : Int} {L : List In4} {i : Nat} (h : i < F.length) : inAt (grL F own L) i = inAt F i := inAt_left h
theorem grL_rest {F : List In4} {own : Int} {L : List In4} {i : Nat} (h : i < L.length) : inAt (grL F own L) (F.length + i) = grX F.length own i (inAt L i) := by
  unfold grL; rw [inAt_right, grTo_at _ _ _ _ _ h]
/-- What its instructions keep to. -/
theorem grX_right {R n V R' : Int} {m : Nat} {own : Int} {i : Nat} {x : In4} (hx : Right R n V x) (hl : x.op ≤ 14) (hi : (i : Int) ≤ 99) (hR : R ≤ R') (_hm : (m : Int) = 1 ∨ (m : Int) = 2) (ho : own < R') : Right R' (m + n) 1 (grX m own i x) ∧ (grX m own i x).op ≤ 11 := by
  obtain ⟨o0, o16, rD, rA, rB, rC, rJ, rI, rS, rV, rL, rT⟩ := hx
  unfold grX
  by_cases h7 : x.op = 7
  · rw [if_pos h7]
    have := rJ h7
    refine ⟨⟨?_, ?_, ?_, ?_, ?_, ?_, ?_, ?_, ?_, ?_, ?_, ?_⟩, ?_⟩ <;> simp only <;> omega
  rw [if_neg h7]
  by_cases h8 : x.op = 8
  · rw [if_pos h8]
    have := rI h8
    have := rA (by omega)
    refine ⟨⟨?_, ?_, ?_, ?_, ?_, ?_, ?_, ?_, ?_, ?_, ?_, ?_⟩, ?_⟩ <;> simp only <;> omega
  rw [if_neg h8]
  by_cases h10 : x.op = 10
  · rw [if_pos h10]
    have := rA (by omega)
    split
    · refine ⟨⟨?_, ?_, ?_, ?_, ?_, ?_, ?_, ?_, ?_, ?_, ?_, ?_⟩, ?_⟩ <;> simp only <;> omega
    · refine ⟨⟨?_, ?_, ?_, ?_, ?_, ?_, ?_, ?_, ?_, ?_, ?_, ?_⟩, ?_⟩ <;> omega
  rw [if_neg h10]
  by_cases h12 : x.op = 12 ∨ x.op = 13 ∨ x.op = 14
  · rw [if_pos h12]
    refine ⟨⟨?_, ?_, ?_, ?_, ?_, ?_, ?_, ?_, ?_, ?_, ?_, ?_⟩, ?_⟩ <;> simp only <;> omega
  rw [if_neg h12]
  refine ⟨⟨o0, o16, fun h => ?_, fun h => ?_, fun h => ?_, fun h => rC h, fun h => absurd h h7, fun h => absurd h h8, rS, fun h => ?_, fun h => ?_, fun h => ?_⟩, by omega⟩
  · have := rD h; omega
  · have := rA h; omega
  · have := rB h; omega
  · omega
  · omega
  · omega
theorem grX_end {m : Nat} {own : Int} {i : Nat} {x : In4} (h : x.op = 7 ∨ x.op = 10) : (grX m own i x).op = 7 ∨ (grX m own i x).op = 10 := by
  unfold grX
  by_cases h7 : x.op = 7
  · rw [if_pos h7]; exact .inl h7
  · have h10 : x.op = 10 := h.resolve_left h7
    rw [if_neg h7, if_neg (by omega), if_pos h10]
    split
    · exact .inr h10
    · exact .inr h10
/-- It is right. -/
theorem grown_right {P R V R' own : Int} {L F : List In4} (hp : RightP P R V L) (hF : (F.length : Int) = 1 ∨ (F.length : Int) = 2) (hn : F.length + L.length ≤ 40) (hR : R ≤ R') (hR' : R' ≤ 12) (ho : own < R') (hf : ∀ i, i < F.length → Right R' ((F.length + L.length : Nat) : Int) 1 (inAt F i) ∧ (inAt F i).op ≤ 14) : RightP P R' 1 (grL F own L) := by
  have hl := grL_len F own L
  have n1 := hp.n1
  have n40 := hp.n40
  refine right_prog (by have := hp.r1; omega) hR' hp.p0 hp.p4 (by have := hp.pr; omega) (by omega) (by omega) (by omega) (by omega) (fun i hi => ?_) ?_
  · rw [hl] at hi ⊢
    by_cases e : i < F.length
    · rw [grL_first e]; exact hf i e
    · obtain ⟨j, rfl⟩ : ∃ j, i = F.length + j := ⟨i - F.length, by omega⟩
      have hj : j < L.length := by omega
      rw [grL_rest hj]
      have := grX_right (m := F.length) (own := own) (i := j) (R' := R') (hp.ins j hj) (hp.low j hj) (by omega) hR hF ho
      rw [show ((F.length + L.length : Nat) : Int) = (F.length : Int) + (L.length : Int) by omega]
      exact ⟨this.1, by omega⟩
  · rw [hl, show F.length + L.length - 1 = F.length + (L.length - 1) by omega, grL_rest (by omega)]
    exact grX_end hp.last
/-- Behind the first instructions nothing is said of variables. -/
theorem grown_calm {P R V : Int} {L F : List In4} {own : Int} (hp : RightP P R V L) (hF : (F.length : Int) = 1 ∨ (F.length : Int) = 2) {j : Nat} (hj : j < L.length) : (inAt (grL F own L) (F.length + j)).op ≤ 11 := by
  rw [grL_rest hj]
  have n40 := hp.n40
  by_cases ho : own < R
  · exact (grX_right (m := F.length) (own := own) (i := j) (R' := R) (hp.ins j hj) (hp.low j hj) (by omega) (Int.le_refl _) hF ho).2
  · exact (grX_right (m := F.length) (own := own) (i := j) (R' := own + 1) (hp.ins j hj) (hp.low j hj) (by omega) (by omega) hF (by omega)).2
end Go.Proofs.YtoepcplbpochpabDoor

/-
  Plain mathematics: what is told of a variable that is tied at the beginning, and of one that is bound to a register that is returned.
-/
namespace Go.Proofs.YtoepcplbpochpabDoor
open Go.RowKit

/-- What is not said again is known at each Stop. -/
theorem said_once {P R V : Int} {L F : List In4} {own o a : Int} (hp : RightP P R V L) (hF : (F.length : Int) = 1 ∨ (F.length : Int) = 2) (hL : Inside (grL F own L)) (hlast : (inAt F (F.length - 1)).op = o ∧ (inAt F (F.length - 1)).d = 0 ∧ (inAt F (F.length - 1)).a = a) (ho : o = 13 ∨ (o = 12 ∧ ∀ j, j < L.length → wrB (inAt (grL F own L) (F.length + j)) a = false))
    (hfirst : ∀ i, i + 1 < F.length → nx1 (inAt F i) i = (i : Int) + 1 ∧ nx2 (inAt F i) i = -1) {i : Nat} (hi : i < (grL F own L).length) (hop : (inAt (grL F own L) i).op = 11) (hk : (factB (grL F own L) i 0).k ≠ 0) (hF11 : ∀ j, j < F.length → (inAt F j).op ≠ 11) : factB (grL F own L) i 0 = ⟨if o = 13 then 2 else 3, a⟩ := by
  have hl := grL_len F own L
  have hiF : F.length ≤ i := by
    rcases Nat.lt_or_ge i F.length with h | h
    · rw [grL_first h] at hop; exact absurd hop (hF11 i h)
    · exact h
  refine must_fact (on := fun k => k < (grL F own L).length) (S := fun k => F.length ≤ k ∧ k < (grL F own L).length) hL ⟨by omega, fun k j hk' _ hn => hn.lt hL hk', by omega, fun h => by omega, fun k j hk' _ hn hj => ?_, ?_⟩ hk
  · rcases Nat.lt_or_ge k F.length with h | h
    · by_cases e : k = F.length - 1
      · left
        rw [grL_first h, e]
        have : o = 12 ∨ o = 13 := by rcases ho with h | h; exact .inr h; exact .inl h.1
        exact ⟨by rw [hlast.1]; omega, by rw [hlast.2.1]; rfl, hlast.1, hlast.2.2⟩
      · exfalso
        obtain ⟨n1, n2⟩ := hfirst k (by omega)
        unfold Nx at hn
        rw [grL_first h, n1, n2] at hn
        omega
    · right
      obtain ⟨q, rfl⟩ : ∃ q, k = F.length + q := ⟨k - F.length, by omega⟩
      have := grown_calm (own := own) hp hF (j := q) (by omega)
      exact ⟨fun h => by omega, h, hk'⟩
  · rcases ho with h | ⟨h, hw⟩
    · exact .inl h
    · refine .inr ⟨h, fun k hk => ?_⟩
      obtain ⟨q, rfl⟩ : ∃ q, k = F.length + q := ⟨k - F.length, by omega⟩
      exact hw q (by omega)
theorem snAt_some {l : List Sn} {n : Nat} {x : Sn} (h : l[n]? = some x) : snAt l n = x := by unfold snAt; rw [List.getD_eq_getElem?_getD, h]; rfl
/-- The first program: a Tie ahead of all. -/
def tieF (c : Int) : List In4 := [⟨13, 0, c, 0⟩]
theorem tie_right {P R V : Nat} {L : List In4} (hp : RightP P R V L) (hn : L.length ≤ 38) {c : Int} (h0 : 0 ≤ c) (h1 : c ≤ 65535) : RightP P R (1 : Nat) (grL (tieF c) (-1) L) := by
  have r1 := hp.r1
  refine grown_right hp (.inl rfl) (by show 1 + L.length ≤ 40; omega) (Int.le_refl _) hp.r12 (by omega) (fun i hi => ?_)
  have hi' : i = 0 := by have : i < 1 := hi; omega
  subst hi'
  show Right (R : Int) _ 1 ⟨13, 0, c, 0⟩ ∧ (13 : Int) ≤ 14
  unfold Right
  simp only
  refine ⟨⟨?_, ?_, ?_, ?_, ?_, ?_, ?_, ?_, ?_, ?_, ?_, ?_⟩, by decide⟩ <;> omega
/-- Each Stop of its unit's run tells the constant. -/
theorem tie_told {P R V K : Nat} {L : List In4} (hp : RightP P R V L) (hn : L.length ≤ 38) (hK : 2 ≤ K) (hK' : K ≤ 16) {c : Int} (h0 : 0 ≤ c) (h1 : c ≤ 65535) {xs : List Int} (hx : ArgsOk xs P) (m : Nat) :
    ∀ n, n < (runSt (cmpC P R K (grL (tieF c) (-1) L)) m (stU (cmpR P R 1 K (grL (tieF c) (-1) L)) none xs)).stops.length → (snAt (runSt (cmpC P R K (grL (tieF c) (-1) L)) m (stU (cmpR P R 1 K (grL (tieF c) (-1) L)) none xs)).stops n).v 0 = c := fun n hn' => by
  have hq := tie_right hp hn h0 h1
  obtain ⟨x, y, i, e1, _, _, e4⟩ := sim_bwd_stops hq hK hK' none xs hx.len hx.val m n hn'
  have hf := said_once (o := 13) (a := c) (own := -1) (F := tieF c) hp (.inl rfl) (right_inside hq) ⟨rfl, rfl, rfl⟩ (.inl rfl) (fun i h => absurd h (by show ¬ i + 1 < 1; omega)) e4.lt e4.op (e4.known 0 (by omega)) (fun j hj => by have : j = 0 := (by have : j < 1 := hj; omega); subst this; show (13 : Int) ≠ 11; decide)
  rw [if_pos rfl] at hf
  have t1 := e4.tied 0 (by omega) (by rw [hf])
  rw [hf] at t1
  have t2 := e4.told 0 (by omega) (by omega) (by unfold canB; rw [hf]; rfl)
  rw [snAt_some e1]
  exact t2.1.trans t1
/-- The second: a register of its own, and a Bind. -/
def ownF (own c : Int) : List In4 := [⟨0, own, c, 0⟩, ⟨12, 0, own, 0⟩]
theorem own_right {P R V : Nat} {L : List In4} (hp : RightP P R V L) (hn : L.length ≤ 38) (hR : R ≤ 11) {c : Int} (h0 : 0 ≤ c) (h1 : c ≤ 65535) : RightP P ((R + 1 : Nat) : Int) (1 : Nat) (grL (ownF R c) R L) := by
  have r1 := hp.r1
  refine grown_right hp (.inr rfl) (by show 2 + L.length ≤ 40; omega) (by omega) (by omega) (by omega) (fun i hi => ?_)
  have hi' : i = 0 ∨ i = 1 := by have : i < 2 := hi; omega
  rcases hi' with rfl | rfl
  · exact ⟨⟨by show (0 : Int) ≤ 0; decide, by show (0 : Int) ≤ 16; decide, fun _ => ⟨by show (0 : Int) ≤ R; omega, by show (R : Int) < ((R + 1 : Nat) : Int); omega⟩, fun h => absurd h (by show ¬ ((0 : Int) = 1 ∨ (2 ≤ (0 : Int) ∧ (0 : Int) ≤ 6) ∨ (0 : Int) = 8 ∨ (0 : Int) = 9 ∨ (0 : Int) = 10 ∨ (0 : Int) = 12); decide), fun h => absurd h (by show ¬ (2 ≤ (0 : Int) ∧ (0 : Int) ≤ 6); decide), fun _ => ⟨h0, h1⟩, fun h => absurd h (by show (0 : Int) ≠ 7; decide), fun h => absurd h (by show (0 : Int) ≠ 8; decide), fun h => absurd h (by show (0 : Int) ≠ 11; decide), fun h => absurd h (by show ¬ (12 ≤ (0 : Int) ∧ (0 : Int) ≤ 14); decide), fun h => absurd h (by show (0 : Int) ≠ 15; decide), fun h => absurd h (by show (0 : Int) ≠ 16; decide)⟩, by show (0 : Int) ≤ 14; decide⟩
  · exact ⟨⟨by show (0 : Int) ≤ 12; decide, by show (12 : Int) ≤ 16; decide, fun h => absurd h (by show ¬ ((12 : Int) = 0 ∨ (12 : Int) = 1 ∨ (2 ≤ (12 : Int) ∧ (12 : Int) ≤ 6)); decide), fun _ => ⟨by show (0 : Int) ≤ R; omega, by show (R : Int) < ((R + 1 : Nat) : Int); omega⟩, fun h => absurd h (by show ¬ (2 ≤ (12 : Int) ∧ (12 : Int) ≤ 6); decide), fun h => absurd h (by show ¬ ((12 : Int) = 0 ∨ (12 : Int) = 13); decide), fun h => absurd h (by show (12 : Int) ≠ 7; decide), fun h => absurd h (by show (12 : Int) ≠ 8; decide), fun h => absurd h (by show (12 : Int) ≠ 11; decide), fun _ => ⟨by show (0 : Int) ≤ 0; decide, by show (0 : Int) < ((1 : Nat) : Int); decide⟩, fun h => absurd h (by show (12 : Int) ≠ 15; decide), fun h => absurd h (by show (12 : Int) ≠ 16; decide)⟩, by show (12 : Int) ≤ 14; decide⟩
theorem kind_not10 {x : In4} {s : St} (h : ¬ x.op = 10) (hk : s.kind = 2) : (stepSt x s).kind = 2 ∨ (stepSt x s).kind = 1 := by
  have pk := (pre_gen x s).2.2.2.1.trans hk
  unfold stepSt
  generalize preSt x s = t at *
  unfold doSt
  by_cases h0 : x.op = 0
  · rw [if_pos h0]; exact .inl pk
  rw [if_neg h0]
  by_cases h1 : x.op = 1
  · rw [if_pos h1]; exact .inl pk
  rw [if_neg h1]
  by_cases h7 : x.op = 7
  · rw [if_pos h7]; exact .inl pk
  rw [if_neg h7]
  by_cases h8 : x.op = 8
  · rw [if_pos h8]
    split
    · exact .inl pk
    · exact .inl pk
  rw [if_neg h8]
  by_cases h9 : x.op = 9
  · rw [if_pos h9]; exact .inl pk
  rw [if_neg h9, if_neg h]
  split
  · unfold St.reckon
    split
    · exact .inr rfl
    · exact .inl pk
  · exact .inl pk
/-- Behind its two first instructions: what the second program's run keeps. -/
structure OwnInv (L : List In4) (own : Nat) (c : Int) (s : St) : Prop where
  at_ : s.on = true → 2 ≤ s.at_
  reg : s.regs own = c
  var : s.vars 0 = c
  stops : ∀ y ∈ s.stops, y.v0 = c
  val : s.kind = 0 → s.val = c
theorem ownI_ins {P R V : Nat} {L : List In4} (hp : RightP P R V L) {c : Int} {j : Nat} (hj : j < L.length) : (inAt (grL (ownF R c) R L) (2 + j)).op ≤ 11 ∧ wrB (inAt (grL (ownF R c) R L) (2 + j)) R = false ∧ ((inAt (grL (ownF R c) R L) (2 + j)).op = 10 → (inAt (grL (ownF R c) R L) (2 + j)).a = R) ∧ (∀ q : Nat, Nx (grL (ownF R c) R L) (2 + j) q → 2 ≤ q) := by
  have hc := grown_calm (own := R) (F := ownF R c) hp (.inr rfl) hj
  have hx := hp.ins j hj
  have hlow := hp.low j hj
  have e : inAt (grL (ownF R c) R L) (2 + j) = grX 2 R j (inAt L j) := grL_rest (F := ownF R c) (own := R) hj
  have hc' : (inAt (grL (ownF R c) R L) (2 + j)).op ≤ 11 := hc
  unfold Nx
  rw [e] at hc' ⊢
  generalize inAt L j = x at *
  obtain ⟨o0, o16, rD, rA, rB, rC, rJ, rI, rS, rV, rL, rT⟩ := hx
  unfold grX at hc' ⊢
  by_cases h7 : x.op = 7
  · rw [if_pos h7] at hc' ⊢
    have := rJ h7
    refine ⟨hc', by unfold wrB isWr isRk; simp only; rw [h7]; rfl, fun h => by simp only at h; omega, fun q hq => ?_⟩
    unfold nx1 nx2 at hq
    simp only at hq
    rw [if_pos h7, if_neg (by omega)] at hq
    omega
  rw [if_neg h7] at hc' ⊢
  by_cases h8 : x.op = 8
  · rw [if_pos h8] at hc' ⊢
    have := rI h8
    refine ⟨hc', by unfold wrB isWr isRk; simp only; rw [h8]; rfl, fun h => by simp only at h; omega, fun q hq => ?_⟩
    unfold nx1 nx2 at hq
    simp only at hq
    rw [if_neg h7, if_pos h8, if_pos h8] at hq
    omega
  rw [if_neg h8] at hc' ⊢
  by_cases h10 : x.op = 10
  · rw [if_pos h10, if_pos (by omega)] at hc' ⊢
    refine ⟨hc', by unfold wrB isWr isRk; simp only; rw [h10]; rfl, fun _ => rfl, fun q hq => ?_⟩
    unfold nx1 nx2 at hq
    simp only at hq
    rw [if_neg h7, if_neg h8, if_pos h10, if_neg h8] at hq
    omega
  rw [if_neg h10] at hc' ⊢
  by_cases h12 : x.op = 12 ∨ x.op = 13 ∨ x.op = 14
  · rw [if_pos h12] at hc' ⊢
    refine ⟨hc', rfl, fun h => by simp only at h; omega, fun q hq => ?_⟩
    have hq' : (q : Int) = ((2 + j : Nat) : Int) + 1 ∨ (q : Int) = -1 := hq
    omega
  rw [if_neg h12] at hc' ⊢
  refine ⟨hc', ?_, fun h => absurd h h10, fun q hq => ?_⟩
  · unfold wrB
    cases hw : isWr x.op with
    | false => rfl
    | true =>
      have hd : x.op = 0 ∨ x.op = 1 ∨ (2 ≤ x.op ∧ x.op ≤ 6) := by
        unfold isWr isRk at hw
        rw [Bool.or_eq_true, Bool.or_eq_true, Bool.and_eq_true, beq_iff_eq, beq_iff_eq, decide_eq_true_iff, decide_eq_true_iff] at hw
        omega
      have := rD hd
      rw [Bool.true_and, beq_eq_false_iff_ne]; omega
  · unfold nx1 nx2 at hq
    rw [if_neg h7, if_neg h8, if_neg h10, if_neg h8] at hq
    omega
theorem own_step {P R V : Nat} {L : List In4} (hp : RightP P R V L) {c : Int} (hq : RightP P ((R + 1 : Nat) : Int) (1 : Nat) (grL (ownF R c) R L)) {s : St} (hs : StOk (grL (ownF R c) R L) (1 : Nat) s) (h : OwnInv L R c s) (hon : s.on = true) : OwnInv L R c (stepSt (inAt (grL (ownF R c) R L) s.at_) s) := by
  have hat := hs.at_ hon
  have hl := grL_len (ownF R c) R L
  have h2 := h.at_ hon
  obtain ⟨j, hj⟩ : ∃ j, s.at_ = 2 + j := ⟨s.at_ - 2, by omega⟩
  have hjl : j < L.length := by have : (ownF R c).length = 2 := rfl; omega
  obtain ⟨i1, i2, i3, i4⟩ := ownI_ins (c := c) hp hjl
  rw [← hj] at i1 i2 i3 i4
  obtain ⟨l1, l2, l3, _⟩ := step_look hq hat
  have hst : (stepSt (inAt (grL (ownF R c) R L) s.at_) s).stops = if (inAt (grL (ownF R c) R L) s.at_).op = 11 then s.stops ++ [⟨(inAt (grL (ownF R c) R L) s.at_).a, s.tell 0, s.tell 1, s.tell 2, s.tell 3⟩] else s.stops := by
    by_cases e : (inAt (grL (ownF R c) R L) s.at_).op = 11
    · rw [if_pos e]
      generalize inAt (grL (ownF R c) R L) s.at_ = x at *
      obtain ⟨op, d, a, b⟩ := x
      simp only at e
      subst e
      exact step_stops11 d a b s
    · rw [if_neg e]
      generalize inAt (grL (ownF R c) R L) s.at_ = x at *
      obtain ⟨op, d, a, b⟩ := x
      exact step_stops e
  refine ⟨fun ho => i4 _ (l3 ho), ?_, ?_, fun y hy => ?_, fun hk => ?_⟩
  · rw [l1 R i2]; exact h.reg
  · have := l2 0
    rw [if_neg (by omega), if_neg (by omega), if_neg (by omega)] at this
    rw [this]; exact h.var
  · rw [hst] at hy
    split at hy
    · rcases List.mem_append.1 hy with hy | hy
      · exact h.stops y hy
      · rw [List.mem_singleton] at hy
        subst hy
        show s.tell 0 = c
        unfold St.tell; rw [hs.env]; exact h.var
    · exact h.stops y hy
  · have h10 : (inAt (grL (ownF R c) R L) s.at_).op = 10 := by
      rcases Classical.em ((inAt (grL (ownF R c) R L) s.at_).op = 10) with e | e
      · exact e
      · exfalso
        have hks := (hs.kind hon).1
        have := kind_not10 e hks; omega
    have ha := i3 h10
    have hr := h.reg
    generalize inAt (grL (ownF R c) R L) s.at_ = x at *
    obtain ⟨op, d, a, b⟩ := x
    simp only at h10 ha
    subst h10 ha
    show s.regs ((R : Int)).toNat = c
    rw [Int.toNat_natCast]; exact hr
theorem own_run {P R V : Nat} {L : List In4} (hp : RightP P R V L) {c : Int} (hq : RightP P ((R + 1 : Nat) : Int) (1 : Nat) (grL (ownF R c) R L)) : ∀ (m : Nat) (s : St), StOk (grL (ownF R c) R L) (1 : Nat) s → OwnInv L R c s → OwnInv L R c (runSt (grL (ownF R c) R L) m s) ∧ ((runSt (grL (ownF R c) R L) m s).kind = 0 → s.on = true → liveB (grL (ownF R c) R L) s.at_ R = true ∧ ∀ p ∈ plSt (grL (ownF R c) R L) m s, liveB (grL (ownF R c) R L) p R = true)
  | 0, s, hs, h => ⟨h, fun hk hon => by have := (hs.kind hon).1; have e : (runSt (grL (ownF R c) R L) 0 s).kind = s.kind := rfl; omega⟩
  | m + 1, s, hs, h => by
    cases hon : s.on with
    | false => rw [run_off _ _ _ hon]; exact ⟨h, fun _ e => by cases e⟩
    | true =>
      have hs' := (step_ok hq hs hon).1
      have h' := own_step hp hq hs h hon
      obtain ⟨r1, r2⟩ := own_run hp hq m _ hs' h'
      rw [run_on (by omega) hon, Nat.add_sub_cancel]
      refine ⟨r1, fun hk _ => ?_⟩
      have hat := hs.at_ hon
      have hl := grL_len (ownF R c) R L
      have h2 := h.at_ hon
      obtain ⟨j, hj⟩ : ∃ j, s.at_ = 2 + j := ⟨s.at_ - 2, by omega⟩
      have hjl : j < L.length := by have : (ownF R c).length = 2 := rfl; omega
      obtain ⟨i1, i2, i3, i4⟩ := ownI_ins (c := c) hp hjl
      rw [← hj] at i1 i2 i3 i4
      have hL := right_inside hq
      cases hon' : (stepSt (inAt (grL (ownF R c) R L) s.at_) s).on with
      | true =>
        obtain ⟨v1, v2⟩ := r2 hk hon'
        have hn := (step_look hq hat).2.2.1 hon'
        have lv := live_back hL hat hn v1 i2
        refine ⟨lv, fun p hpm => ?_⟩
        have hpm' : p ∈ (if s.on = true then (if (inAt (grL (ownF R c) R L) s.at_).op = 11 then [s.at_] else []) ++ plSt (grL (ownF R c) R L) m (stepSt (inAt (grL (ownF R c) R L) s.at_) s) else []) := hpm
        rw [if_pos hon] at hpm'
        rcases List.mem_append.1 hpm' with e | e
        · split at e
          · rw [List.mem_singleton] at e; rw [e]; exact lv
          · cases e
        · exact v2 p e
      | false =>
        have hk' : (stepSt (inAt (grL (ownF R c) R L) s.at_) s).kind = 0 := by rw [run_off _ _ _ hon'] at hk; exact hk
        have h10 : (inAt (grL (ownF R c) R L) s.at_).op = 10 := by
          rcases Classical.em ((inAt (grL (ownF R c) R L) s.at_).op = 10) with e | e
          · exact e
          · exfalso
            have hks := (hs.kind hon).1
            have := kind_not10 e hks; omega
        have lv : liveB (grL (ownF R c) R L) s.at_ R = true := (live_iff hL).2 (.here hat (by unfold rdB; rw [if_pos (.inr (.inr (.inr h10))), i3 h10, beq_iff_eq]))
        refine ⟨lv, fun p hpm => ?_⟩
        have hpm' : p ∈ (if s.on = true then (if (inAt (grL (ownF R c) R L) s.at_).op = 11 then [s.at_] else []) ++ plSt (grL (ownF R c) R L) m (stepSt (inAt (grL (ownF R c) R L) s.at_) s) else []) := hpm
        rw [if_pos hon, if_neg (by omega), pl_off hon'] at hpm'
        cases hpm'
end Go.Proofs.YtoepcplbpochpabDoor

/-
  Plain mathematics: how the known programs end, and their units.
-/
namespace Go.Proofs.YtoepcplbpochpabDoor
open Go.RowKit

theorem run_done {L : List In4} {m q : Nat} {s t : St} (h : runSt L m s = t) (ht : t.on = false) (hq : m ≤ q) : runSt L q s = t := by
  rw [show q = m + (q - m) by omega, run_add, h, run_off _ _ _ ht]
/-- Which program; what it comes to; how many Stops there are. -/
def knL (c : Int) : List In4 := if c = 0 then knP0 else if c = 1 then knP1 else if c = 2 then knP2 else knP3
def endV (c : Int) (a b : Nat) : Int := if c = 0 then (a : Int) * (a + 1) / 2 % 65536 else if c = 1 then (eucG (b + 1) a b : Int) else if c = 2 then powF a b 1 else if b = 0 then -1 else ((a % b : Nat) : Int)
def endN (c : Int) (a b : Nat) : Nat := if c = 0 then a else if c = 1 then eucN (b + 1) a b else if c = 2 then b else if b = 0 then 0 else 1
def endJ (c : Int) : Nat := if c = 3 then 1 else 0
structure KnEnd (s : St) (c v : Int) (n : Nat) : Prop where
  len : s.stops.length = n
  trap : v < 0 → s.kind = 1
  ret : 0 ≤ v → s.kind = 0 ∧ s.val = v
  last : 0 < n → c ≠ 1 → (snAt s.stops (n - 1)).v (endJ c) = v
theorem right_of {L : List In4} {R V : Int} (h0 : ∀ i, i < L.length → 0 ≤ (inAt L i).op) (h1 : ∀ i, i < L.length → (inAt L i).op ≤ 16) (h2 : ∀ i, i < L.length → ((inAt L i).op = 0 ∨ (inAt L i).op = 1 ∨ (2 ≤ (inAt L i).op ∧ (inAt L i).op ≤ 6)) → 0 ≤ (inAt L i).d ∧ (inAt L i).d < R) (h3 : ∀ i, i < L.length → ((inAt L i).op = 1 ∨ (2 ≤ (inAt L i).op ∧ (inAt L i).op ≤ 6) ∨ (inAt L i).op = 8 ∨ (inAt L i).op = 9 ∨ (inAt L i).op = 10 ∨ (inAt L i).op = 12) → 0 ≤ (inAt L i).a ∧ (inAt L i).a < R) (h4 : ∀ i, i < L.length → (2 ≤ (inAt L i).op ∧ (inAt L i).op ≤ 6) → 0 ≤ (inAt L i).b ∧ (inAt L i).b < R) (h5 : ∀ i, i < L.length → ((inAt L i).op = 0 ∨ (inAt L i).op = 13) → 0 ≤ (inAt L i).a ∧ (inAt L i).a ≤ 65535) (h6 : ∀ i, i < L.length → (inAt L i).op = 7 → 0 ≤ (inAt L i).a ∧ (inAt L i).a < (L.length : Int)) (h7 : ∀ i, i < L.length → (inAt L i).op = 8 → 0 ≤ (inAt L i).b ∧ (inAt L i).b < (L.length : Int)) (h8 : ∀ i, i < L.length → (inAt L i).op = 11 → 0 ≤ (inAt L i).a ∧ (inAt L i).a ≤ 99) (h9 : ∀ i, i < L.length → (12 ≤ (inAt L i).op ∧ (inAt L i).op ≤ 14) → 0 ≤ (inAt L i).d ∧ (inAt L i).d < V) (h10 : ∀ i, i < L.length → (inAt L i).op ≠ 15) (h11 : ∀ i, i < L.length → (inAt L i).op ≠ 16) : ∀ i, i < L.length → Right R L.length V (inAt L i) := fun i hi =>
  ⟨h0 i hi, h1 i hi, h2 i hi, h3 i hi, h4 i hi, h5 i hi, h6 i hi, h7 i hi, h8 i hi, h9 i hi, fun h => absurd h (h10 i hi), fun h => absurd h (h11 i hi)⟩
theorem kn_right : RightP (2 : Nat) (5 : Nat) (2 : Nat) knP0 ∧ RightP (2 : Nat) (5 : Nat) (2 : Nat) knP1 ∧ RightP (2 : Nat) (5 : Nat) (2 : Nat) knP2 ∧ RightP (2 : Nat) (5 : Nat) (2 : Nat) knP3 := by
  refine ⟨?_, ?_, ?_, ?_⟩ <;> exact ⟨by decide, by decide, by decide, by decide, by decide, by decide, by decide, by decide, by decide, right_of (by decide) (by decide) (by decide) (by decide) (by decide) (by decide) (by decide) (by decide) (by decide) (by decide) (by decide) (by decide), by decide, by decide⟩
theorem knL_right {c : Int} : RightP (2 : Nat) (5 : Nat) (2 : Nat) (knL c) := by
  unfold knL
  split
  · exact kn_right.1
  split
  · exact kn_right.2.1
  split
  · exact kn_right.2.2.1
  exact kn_right.2.2.2
theorem powF_rng {a : Int} : ∀ (n : Nat) (S : Int), 0 ≤ S → S < 65536 → 0 ≤ powF a n S ∧ powF a n S < 65536
  | 0, S, h0, h1 => ⟨h0, h1⟩
  | n + 1, S, _, _ => powF_rng n _ (Int.emod_nonneg _ (by decide)) (Int.emod_lt_of_pos _ (by decide))
theorem kn0 {a b : Nat} (ha : a ≤ 1000) : KnEnd (runSt knP0 20000 (st0 [(a : Int), (b : Int)])) 0 (endV 0 a b) (endN 0 a b) := by
  obtain ⟨t, ht, a1, a2, a3, a4, a5⟩ := sum_all a (upd (upd (nth [(a : Int), (b : Int)]) 2 0) 3 1) (upd (fun _ => -1) 0 0) 3 [] [] 0 (by decide) (by decide) rfl (by omega) rfl rfl
  have h : runSt knP0 (3 + (7 * a + 2)) (st0 [(a : Int), (b : Int)]) = t := by
    rw [Nat.add_comm]
    refine go_one rfl (s' := ⟨1, upd (nth [(a : Int), (b : Int)]) 2 0, fun _ => -1, true, 2, 0, 1, [], [], progEnv⟩) rfl ?_
    refine go_one rfl (s' := ⟨2, upd (upd (nth [(a : Int), (b : Int)]) 2 0) 3 1, fun _ => -1, true, 2, 0, 2, [], [], progEnv⟩) rfl ?_
    exact go_one rfl rfl ht
  rw [run_done h a1 (by omega)]
  have e : endV 0 a b = (a : Int) * (a + 1) / 2 % 65536 := rfl
  have a3' : t.val = endV 0 a b := by rw [a3, e, Int.zero_add]
  have hv : 0 ≤ endV 0 a b := by rw [e]; exact Int.emod_nonneg _ (by decide)
  refine ⟨by rw [a4]; exact Nat.zero_add _, fun h => by omega, fun _ => ⟨a2, a3'⟩, fun h0 _ => ?_⟩
  obtain ⟨x, hx, hx'⟩ := a5 h0
  rw [a4, show ([] : List Sn).length + a = a from Nat.zero_add _] at hx
  rw [show endN 0 a b - 1 = a - 1 from rfl, snAt_some hx]
  exact hx'.trans a3'
theorem kn1 {a b : Nat} (ha : a ≤ 65535) (hb : b ≤ 65535) : KnEnd (runSt knP1 20000 (st0 [(a : Int), (b : Int)])) 1 (endV 1 a b) (endN 1 a b) := by
  obtain ⟨t, ht, a1, a2, a3, a4⟩ := euc_all (b + 1) a b (nth [(a : Int), (b : Int)]) (fun _ => -1) 0 [] [] (by omega) ha hb rfl rfl
  have hf := euc_few 17 (b + 1) a b (by show b < 131072; omega)
  have ht' : runSt knP1 (10 * eucN (b + 1) a b + 2) (st0 [(a : Int), (b : Int)]) = t := ht
  rw [run_done ht' a1 (by omega)]
  have e : endV 1 a b = (eucG (b + 1) a b : Int) := rfl
  refine ⟨by rw [a4]; exact Nat.zero_add _, fun h => by rw [e] at h; omega, fun _ => ⟨a2, a3⟩, fun _ h => absurd rfl h⟩
theorem kn2 {a b : Nat} (hb : b ≤ 1000) : KnEnd (runSt knP2 20000 (st0 [(a : Int), (b : Int)])) 2 (endV 2 a b) (endN 2 a b) := by
  obtain ⟨t, ht, a1, a2, a3, a4, a5⟩ := pow_all a b (upd (upd (nth [(a : Int), (b : Int)]) 2 1) 3 1) (fun _ => -1) 2 [] [] 1 rfl rfl (by omega) rfl rfl
  have h : runSt knP2 (2 + (7 * b + 2)) (st0 [(a : Int), (b : Int)]) = t := by
    rw [Nat.add_comm]
    refine go_one rfl (s' := ⟨1, upd (nth [(a : Int), (b : Int)]) 2 1, fun _ => -1, true, 2, 0, 1, [], [], progEnv⟩) rfl ?_
    exact go_one rfl rfl ht
  rw [run_done h a1 (by omega)]
  have e : endV 2 a b = powF a b 1 := rfl
  have hv := (powF_rng (a := (a : Int)) b 1 (by decide) (by decide)).1
  refine ⟨by rw [a4]; exact Nat.zero_add _, fun h => by rw [e] at h; omega, fun _ => ⟨a2, a3⟩, fun h0 _ => ?_⟩
  obtain ⟨x, hx, hx'⟩ := a5 h0
  rw [a4, show ([] : List Sn).length + b = b from Nat.zero_add _] at hx
  rw [show endN 2 a b - 1 = b - 1 from rfl, snAt_some hx]
  exact hx'.trans a3
/-- The division. -/
theorem kn3 {a b : Nat} (ha : a ≤ 65535) : KnEnd (runSt knP3 20000 (st0 [(a : Int), (b : Int)])) 3 (endV 3 a b) (endN 3 a b) := by
  obtain ⟨rg, hrg⟩ : ∃ rg, rg = nth [(a : Int), (b : Int)] := ⟨_, rfl⟩
  have h0 : rg 0 = (a : Int) := by rw [hrg]; rfl
  have h1 : rg 1 = (b : Int) := by rw [hrg]; rfl
  have hst : st0 [(a : Int), (b : Int)] = ⟨0, rg, fun _ => -1, true, 2, 0, 0, [], [], progEnv⟩ := by rw [hrg]; rfl
  rw [hst]
  by_cases hz : b = 0
  · have h : runSt knP3 1 ⟨0, rg, fun _ => -1, true, 2, 0, 0, [], [], progEnv⟩ = St.ended (St.next ⟨0, rg, fun _ => -1, true, 2, 0, 0, [], [], progEnv⟩) 1 0 := by
      refine go_one rfl (reck_no (op := 5) (by decide) 2 0 1 _ ?_) rfl
      show reachE 5 (rg 0) (rg 1) < 0
      rw [h1, hz]
      have e : ∀ z : Int, reachE 5 z ((0 : Nat) : Int) = -1 := fun z => by
        show (if ((0 : Nat) : Int) = 0 then (-1 : Int) else z / ((0 : Nat) : Int)) = -1
        rw [if_pos (show ((0 : Nat) : Int) = 0 from rfl)]
      exact Int.lt_of_le_of_lt (Int.le_of_eq (e (rg 0))) (by decide)
    rw [run_done h rfl (by omega)]
    have e : endV 3 a b = -1 := by unfold endV; rw [if_neg (by decide), if_neg (by decide), if_neg (by decide), if_pos hz]
    have e' : endN 3 a b = 0 := by unfold endN; rw [if_neg (by decide), if_neg (by decide), if_neg (by decide), if_pos hz]
    rw [e, e']
    exact ⟨rfl, fun _ => rfl, fun h => absurd h (by decide), fun h => absurd h (Nat.lt_irrefl _)⟩
  · have hd : (a : Int) / (b : Int) = ((a / b : Nat) : Int) := rfl
    have hq : a / b * b ≤ a := Nat.div_mul_le_self a b
    have hm : a % b = a - a / b * b := by have := Nat.div_add_mod a b; rw [Nat.mul_comm] at this; omega
    have r2 : ((a / b : Nat) : Int) * (b : Int) % 65536 = ((a / b * b : Nat) : Int) := by rw [← Int.natCast_mul]; omega
    have e4 : ((a : Int) + 65536 - ((a / b * b : Nat) : Int)) % 65536 = ((a % b : Nat) : Int) := by rw [hm]; omega
    obtain ⟨q, hqe⟩ : ∃ q : Int, q = ((a / b : Nat) : Int) := ⟨_, rfl⟩
    obtain ⟨m, hme⟩ : ∃ m : Int, m = ((a / b * b : Nat) : Int) := ⟨_, rfl⟩
    obtain ⟨x, hxe⟩ : ∃ x : Int, x = ((a % b : Nat) : Int) := ⟨_, rfl⟩
    rw [← hqe] at hd r2
    rw [← hme] at r2 e4
    rw [← hxe] at e4
    have q0 : 0 ≤ q := by rw [hqe]; exact Int.natCast_nonneg _
    have m0 : 0 ≤ m := by rw [hme]; exact Int.natCast_nonneg _
    have x0 : 0 ≤ x := by rw [hxe]; exact Int.natCast_nonneg _
    have h : runSt knP3 9 ⟨0, rg, fun _ => -1, true, 2, 0, 0, [], [], progEnv⟩ = ⟨9, upd (upd (upd rg 2 q) 3 m) 3 x, upd (upd (fun _ => -1) 0 q) 1 x, false, 0, x, 9, [q, x], [⟨1, q, x, -1, -1⟩], progEnv⟩ := by
      refine go_one rfl (s' := ⟨1, upd rg 2 q, fun _ => -1, true, 2, 0, 1, [], [], progEnv⟩) ?_ ?_
      · have hr : reachE 5 (rg 0) (rg 1) = q := by rw [h0, h1, reach5 (by omega), hd]
        have := reck_yes (op := 5) (by decide) 2 0 1 (⟨0, rg, fun _ => -1, true, 2, 0, 0, [], [], progEnv⟩ : St) (by show 0 ≤ reachE 5 (rg 0) (rg 1); rw [hr]; exact q0)
        rw [show reachE 5 ((⟨0, rg, fun _ => -1, true, 2, 0, 0, [], [], progEnv⟩ : St).regs 0) ((⟨0, rg, fun _ => -1, true, 2, 0, 0, [], [], progEnv⟩ : St).regs 1) = q from hr] at this
        exact this
      refine go_one rfl (s' := ⟨2, upd rg 2 q, upd (fun _ => -1) 0 q, true, 2, 0, 2, [], [], progEnv⟩) rfl ?_
      refine go_one rfl (s' := ⟨3, upd rg 2 q, upd (fun _ => -1) 0 q, true, 2, 0, 3, [q], [], progEnv⟩) rfl ?_
      obtain ⟨vs, hvs⟩ : ∃ vs, vs = upd (fun _ => (-1 : Int)) 0 q := ⟨_, rfl⟩
      have hvs0 : vs 0 = q := by rw [hvs]; rfl
      have hvs2 : vs 2 = -1 := by rw [hvs]; rfl
      have hvs3 : vs 3 = -1 := by rw [hvs]; rfl
      rw [← hvs]
      refine go_one rfl (s' := ⟨4, upd (upd rg 2 q) 3 m, vs, true, 2, 0, 4, [q], [], progEnv⟩) ?_ ?_
      · have hr : reachE 4 ((upd rg 2 q) 2) ((upd rg 2 q) 1) = m := by rw [show (upd rg 2 q) 2 = q from rfl, show (upd rg 2 q) 1 = (b : Int) from h1, reach4, r2]
        have := reck_yes (op := 4) (by decide) 3 2 1 (⟨3, upd rg 2 q, vs, true, 2, 0, 3, [q], [], progEnv⟩ : St) (by show 0 ≤ reachE 4 ((upd rg 2 q) 2) ((upd rg 2 q) 1); rw [hr]; exact m0)
        rw [show reachE 4 ((⟨3, upd rg 2 q, vs, true, 2, 0, 3, [q], [], progEnv⟩ : St).regs 2) ((⟨3, upd rg 2 q, vs, true, 2, 0, 3, [q], [], progEnv⟩ : St).regs 1) = m from hr] at this
        exact this
      refine go_one rfl (s' := ⟨5, upd (upd (upd rg 2 q) 3 m) 3 x, vs, true, 2, 0, 5, [q], [], progEnv⟩) ?_ ?_
      · have hr : reachE 3 ((upd (upd rg 2 q) 3 m) 0) ((upd (upd rg 2 q) 3 m) 3) = x := by rw [show (upd (upd rg 2 q) 3 m) 0 = (a : Int) from h0, show (upd (upd rg 2 q) 3 m) 3 = m from rfl, reach3, e4]
        have := reck_yes (op := 3) (by decide) 3 0 3 (⟨4, upd (upd rg 2 q) 3 m, vs, true, 2, 0, 4, [q], [], progEnv⟩ : St) (by show 0 ≤ reachE 3 ((upd (upd rg 2 q) 3 m) 0) ((upd (upd rg 2 q) 3 m) 3); rw [hr]; exact x0)
        rw [show reachE 3 ((⟨4, upd (upd rg 2 q) 3 m, vs, true, 2, 0, 4, [q], [], progEnv⟩ : St).regs 0) ((⟨4, upd (upd rg 2 q) 3 m, vs, true, 2, 0, 4, [q], [], progEnv⟩ : St).regs 3) = x from hr] at this
        exact this
      refine go_one rfl (s' := ⟨6, upd (upd (upd rg 2 q) 3 m) 3 x, upd vs 1 x, true, 2, 0, 6, [q], [], progEnv⟩) rfl ?_
      refine go_one rfl (s' := ⟨7, upd (upd (upd rg 2 q) 3 m) 3 x, upd vs 1 x, true, 2, 0, 7, [q], [⟨1, vs 0, x, vs 2, vs 3⟩], progEnv⟩) rfl ?_
      rw [hvs0, hvs2, hvs3]
      refine go_one rfl (s' := ⟨8, upd (upd (upd rg 2 q) 3 m) 3 x, upd vs 1 x, true, 2, 0, 8, [q, x], [⟨1, q, x, -1, -1⟩], progEnv⟩) rfl ?_
      exact go_one rfl rfl rfl
    rw [run_done h rfl (by omega)]
    have e : endV 3 a b = x := by unfold endV; rw [if_neg (by decide), if_neg (by decide), if_neg (by decide), if_neg hz, hxe]
    have e' : endN 3 a b = 1 := by unfold endN; rw [if_neg (by decide), if_neg (by decide), if_neg (by decide), if_neg hz]
    rw [e, e']
    exact ⟨rfl, fun h => by omega, fun _ => ⟨rfl, rfl⟩, fun _ _ => rfl⟩
/-- What a unit's last Stop tells. -/
theorem kn_unit {L : List In4} (hp : RightP (2 : Nat) (5 : Nat) (2 : Nat) L) {c v : Int} {n K : Nat} (hK : 2 ≤ K) (hK' : K ≤ 16) {xs : List Int} (hx : ArgsOk xs 2) (h : KnEnd (runSt L 20000 (st0 xs)) c v n)
    (hs : c ≠ 1 → ∃ i0, (∀ i, i < L.length → (inAt L i).op = 11 → i = i0) ∧ canB (factB L i0 (endJ c)) (liveB L i0) = true) : KnEnd (runSt (cmpC 2 5 K L) 80004 (stU (cmpR 2 5 2 K L) none xs)) c v n := by
  obtain ⟨hg, hst, _⟩ := sim_fwd hp hK hK' none xs hx.len hx.val 20000
  have hk2 : (runSt L 20000 (st0 xs)).kind ≠ 2 := by
    rcases Int.lt_or_le v 0 with e | e
    · rw [h.trap e]; decide
    · rw [(h.ret e).1]; decide
  obtain ⟨g1, g2, _, g4⟩ := hg.fin hk2
  have hj : endJ c < 2 := by unfold endJ; split <;> decide
  refine ⟨g4.trans h.len, fun e => g1.trans (h.trap e), fun e => ⟨g1.trans (h.ret e).1, g2.trans (h.ret e).2⟩, fun h0 hc => ?_⟩
  obtain ⟨i0, hi0, hcan⟩ := hs hc
  obtain ⟨x, y, i, e1, e2, _, e4⟩ := hst (n - 1) (by rw [h.len]; omega)
  have hii := hi0 i e4.lt e4.op
  subst hii
  have hl := h.last h0 hc
  rw [snAt_some e2] at hl
  rw [snAt_some e1]
  exact (e4.told (endJ c) (by omega) (by omega) hcan).1.trans hl
theorem kn_can : canB (factB knP0 8 0) (liveB knP0 8) = true ∧ canB (factB knP2 7 0) (liveB knP2 7) = true ∧ canB (factB knP3 6 1) (liveB knP3 6) = true := by
  refine ⟨?_, ?_, ?_⟩ <;> kernel_rfl
/-- All four. -/
theorem kn_all {c : Int} (hc : 0 ≤ c ∧ c < 4) {a b : Nat} (ha : a ≤ 65535) (hb : b ≤ 65535) (h0 : c = 0 → a ≤ 1000) (h2 : c = 2 → b ≤ 1000) {K : Nat} (hK : 2 ≤ K) (hK' : K ≤ 16) :
    KnEnd (runSt (knL c) 20000 (st0 [(a : Int), (b : Int)])) c (endV c a b) (endN c a b) ∧ KnEnd (runSt (cmpC 2 5 K (knL c)) 80004 (stU (cmpR 2 5 2 K (knL c)) none [(a : Int), (b : Int)])) c (endV c a b) (endN c a b) := by
  have hx : ArgsOk [(a : Int), (b : Int)] 2 := ⟨rfl, fun i => by
    rcases i with _ | _ | i
    · show 0 ≤ (a : Int) ∧ (a : Int) ≤ 65535; omega
    · show 0 ≤ (b : Int) ∧ (b : Int) ≤ 65535; omega
    · show (0 : Int) ≤ 0 ∧ (0 : Int) ≤ 65535; decide⟩
  rcases (show c = 0 ∨ c = 1 ∨ c = 2 ∨ c = 3 by omega) with rfl | rfl | rfl | rfl
  · have h := kn0 (b := b) (h0 rfl)
    exact ⟨h, kn_unit kn_right.1 hK hK' hx h (fun _ => ⟨8, by decide, kn_can.1⟩)⟩
  · have h := kn1 ha hb
    exact ⟨h, kn_unit kn_right.2.1 hK hK' hx h (fun h => absurd rfl h)⟩
  · have h := kn2 (a := a) (h2 rfl)
    exact ⟨h, kn_unit kn_right.2.2.1 hK hK' hx h (fun _ => ⟨7, by decide, kn_can.2.1⟩)⟩
  · have h := kn3 (b := b) ha
    exact ⟨h, kn_unit kn_right.2.2.2 hK hK' hx h (fun _ => ⟨6, by decide, kn_can.2.2⟩)⟩
end Go.Proofs.YtoepcplbpochpabDoor

/-
  What lodgekeep.known answers.
-/
namespace Go.Proofs.YtoepcplbpochpabDoor
open Go.RowKit

theorem heap_first (w : World) (A B C : Obj) : (((w.alloc A).alloc B).alloc C).heap[w.heap.size]? = some A := by
  rw [heap_alloc_old _ _ (by simp; omega), heap_alloc_old _ _ (by simp)]; exact heap_alloc_new w A
theorem below_lit (w : World) (A B C : Obj) : Below w.heap.size w (((w.alloc A).alloc B).alloc C) := (((Below.refl _ _).alloc (Nat.le_refl _) _).alloc (by simp) _).alloc (by simp; omega) _
theorem known_held0 (w0 : World) {N : Nat} (hN : w0.heap.size = N) : HeldIns (w0.alloc (.cells #[.int .i64 0, .int .i64 2, .int .i64 0, .int .i64 0, .int .i64 0, .int .i64 3, .int .i64 1, .int .i64 0, .int .i64 12, .int .i64 0, .int .i64 2, .int .i64 0, .int .i64 8, .int .i64 0, .int .i64 0, .int .i64 5, .int .i64 10, .int .i64 0, .int .i64 2, .int .i64 0, .int .i64 12, .int .i64 1, .int .i64 0, .int .i64 0, .int .i64 2, .int .i64 2, .int .i64 2, .int .i64 0, .int .i64 12, .int .i64 0, .int .i64 2, .int .i64 0, .int .i64 11, .int .i64 0, .int .i64 1, .int .i64 0, .int .i64 3, .int .i64 0, .int .i64 0, .int .i64 3, .int .i64 7, .int .i64 0, .int .i64 3, .int .i64 0] 31)) (some ⟨N, 0, none⟩) knP0 := by
  subst hN
  exact .inr ⟨w0.heap.size, 0, rfl, by simp, fun i hi => by
    have : i = 0 ∨ i = 1 ∨ i = 2 ∨ i = 3 ∨ i = 4 ∨ i = 5 ∨ i = 6 ∨ i = 7 ∨ i = 8 ∨ i = 9 ∨ i = 10 := by have : i < 11 := hi; omega
    rcases this with rfl | rfl | rfl | rfl | rfl | rfl | rfl | rfl | rfl | rfl | rfl <;> (refine ⟨?_, ?_, ?_, ?_⟩ <;> (rw [World.cell?_alloc_at (hn := rfl)]; rfl))⟩
theorem known_held1 (w0 : World) {N : Nat} (hN : w0.heap.size = N) : HeldIns (w0.alloc (.cells #[.int .i64 8, .int .i64 0, .int .i64 1, .int .i64 2, .int .i64 10, .int .i64 0, .int .i64 0, .int .i64 0, .int .i64 12, .int .i64 0, .int .i64 0, .int .i64 0, .int .i64 12, .int .i64 1, .int .i64 1, .int .i64 0, .int .i64 11, .int .i64 0, .int .i64 1, .int .i64 0, .int .i64 5, .int .i64 2, .int .i64 0, .int .i64 1, .int .i64 4, .int .i64 3, .int .i64 2, .int .i64 1, .int .i64 3, .int .i64 4, .int .i64 0, .int .i64 3, .int .i64 1, .int .i64 0, .int .i64 1, .int .i64 0, .int .i64 1, .int .i64 1, .int .i64 4, .int .i64 0, .int .i64 7, .int .i64 0, .int .i64 0, .int .i64 0] 31)) (some ⟨N, 0, none⟩) knP1 := by
  subst hN
  exact .inr ⟨w0.heap.size, 0, rfl, by simp, fun i hi => by
    have : i = 0 ∨ i = 1 ∨ i = 2 ∨ i = 3 ∨ i = 4 ∨ i = 5 ∨ i = 6 ∨ i = 7 ∨ i = 8 ∨ i = 9 ∨ i = 10 := by have : i < 11 := hi; omega
    rcases this with rfl | rfl | rfl | rfl | rfl | rfl | rfl | rfl | rfl | rfl | rfl <;> (refine ⟨?_, ?_, ?_, ?_⟩ <;> (rw [World.cell?_alloc_at (hn := rfl)]; rfl))⟩
theorem known_held2 (w0 : World) {N : Nat} (hN : w0.heap.size = N) : HeldIns (w0.alloc (.cells #[.int .i64 0, .int .i64 2, .int .i64 1, .int .i64 0, .int .i64 0, .int .i64 3, .int .i64 1, .int .i64 0, .int .i64 8, .int .i64 0, .int .i64 1, .int .i64 4, .int .i64 10, .int .i64 0, .int .i64 2, .int .i64 0, .int .i64 4, .int .i64 2, .int .i64 2, .int .i64 0, .int .i64 12, .int .i64 0, .int .i64 2, .int .i64 0, .int .i64 12, .int .i64 1, .int .i64 1, .int .i64 0, .int .i64 11, .int .i64 0, .int .i64 1, .int .i64 0, .int .i64 3, .int .i64 1, .int .i64 1, .int .i64 3, .int .i64 7, .int .i64 0, .int .i64 2, .int .i64 0] 31)) (some ⟨N, 0, none⟩) knP2 := by
  subst hN
  exact .inr ⟨w0.heap.size, 0, rfl, by simp, fun i hi => by
    have : i = 0 ∨ i = 1 ∨ i = 2 ∨ i = 3 ∨ i = 4 ∨ i = 5 ∨ i = 6 ∨ i = 7 ∨ i = 8 ∨ i = 9 := by have : i < 10 := hi; omega
    rcases this with rfl | rfl | rfl | rfl | rfl | rfl | rfl | rfl | rfl | rfl <;> (refine ⟨?_, ?_, ?_, ?_⟩ <;> (rw [World.cell?_alloc_at (hn := rfl)]; rfl))⟩
theorem known_held3 (w0 : World) {N : Nat} (hN : w0.heap.size = N) : HeldIns (w0.alloc (.cells #[.int .i64 5, .int .i64 2, .int .i64 0, .int .i64 1, .int .i64 12, .int .i64 0, .int .i64 2, .int .i64 0, .int .i64 9, .int .i64 0, .int .i64 2, .int .i64 0, .int .i64 4, .int .i64 3, .int .i64 2, .int .i64 1, .int .i64 3, .int .i64 3, .int .i64 0, .int .i64 3, .int .i64 12, .int .i64 1, .int .i64 3, .int .i64 0, .int .i64 11, .int .i64 0, .int .i64 1, .int .i64 0, .int .i64 9, .int .i64 0, .int .i64 3, .int .i64 0, .int .i64 10, .int .i64 0, .int .i64 3, .int .i64 0] 31)) (some ⟨N, 0, none⟩) knP3 := by
  subst hN
  exact .inr ⟨w0.heap.size, 0, rfl, by simp, fun i hi => by
    have : i = 0 ∨ i = 1 ∨ i = 2 ∨ i = 3 ∨ i = 4 ∨ i = 5 ∨ i = 6 ∨ i = 7 ∨ i = 8 := by have : i < 9 := hi; omega
    rcases this with rfl | rfl | rfl | rfl | rfl | rfl | rfl | rfl | rfl <;> (refine ⟨?_, ?_, ?_, ?_⟩ <;> (rw [World.cell?_alloc_at (hn := rfl)]; rfl))⟩
set_option maxRecDepth 100000 in
set_option maxHeartbeats 8000000 in
theorem known_0 (w : World) :
    Calls Tryd.prog 20 #[.int .i64 0] w fun e w' => ∃ ao cap, e = .returned (.agg #[.int .i64 2, .int .i64 5, .int .i64 2, .slice ao knP0.length cap]) ∧ HeldIns w' ao knP0 ∧ Below w.heap.size w w' := by
  go_enter Tryd.func20, Tryd.ntmps20
  go_wp2_with fail
  refine bodyPost_ret (results_cell_row rfl _ _ w.heap.size 24 _ (0, 0) _ rfl (heap_first w _ _ _) Tryd.underlying24 rfl Tryd.sizeProg) rfl ⟨some ⟨w.heap.size + 1 + 1, 0, none⟩, 11, rfl, known_held0 _ (by simp), below_lit w _ _ _⟩
set_option maxRecDepth 100000 in
set_option maxHeartbeats 8000000 in
theorem known_1 (w : World) :
    Calls Tryd.prog 20 #[.int .i64 1] w fun e w' => ∃ ao cap, e = .returned (.agg #[.int .i64 2, .int .i64 5, .int .i64 2, .slice ao knP1.length cap]) ∧ HeldIns w' ao knP1 ∧ Below w.heap.size w w' := by
  go_enter Tryd.func20, Tryd.ntmps20
  go_wp2_with fail
  refine bodyPost_ret (results_cell_row rfl _ _ w.heap.size 24 _ (0, 0) _ rfl (heap_first w _ _ _) Tryd.underlying24 rfl Tryd.sizeProg) rfl ⟨some ⟨w.heap.size + 1 + 1, 0, none⟩, 11, rfl, known_held1 _ (by simp), below_lit w _ _ _⟩
set_option maxRecDepth 100000 in
set_option maxHeartbeats 8000000 in
theorem known_2 (w : World) :
    Calls Tryd.prog 20 #[.int .i64 2] w fun e w' => ∃ ao cap, e = .returned (.agg #[.int .i64 2, .int .i64 5, .int .i64 2, .slice ao knP2.length cap]) ∧ HeldIns w' ao knP2 ∧ Below w.heap.size w w' := by
  go_enter Tryd.func20, Tryd.ntmps20
  go_wp2_with fail
  refine bodyPost_ret (results_cell_row rfl _ _ w.heap.size 24 _ (0, 0) _ rfl (heap_first w _ _ _) Tryd.underlying24 rfl Tryd.sizeProg) rfl ⟨some ⟨w.heap.size + 1 + 1, 0, none⟩, 10, rfl, known_held2 _ (by simp), below_lit w _ _ _⟩
set_option maxRecDepth 100000 in
set_option maxHeartbeats 8000000 in
theorem known_3 (w : World) :
    Calls Tryd.prog 20 #[.int .i64 3] w fun e w' => ∃ ao cap, e = .returned (.agg #[.int .i64 2, .int .i64 5, .int .i64 2, .slice ao knP3.length cap]) ∧ HeldIns w' ao knP3 ∧ Below w.heap.size w w' := by
  go_enter Tryd.func20, Tryd.ntmps20
  go_wp2_with fail
  refine bodyPost_ret (results_cell_row rfl _ _ w.heap.size 24 _ (0, 0) _ rfl (heap_first w _ _ _) Tryd.underlying24 rfl Tryd.sizeProg) rfl ⟨some ⟨w.heap.size + 1 + 1, 0, none⟩, 9, rfl, known_held3 _ (by simp), below_lit w _ _ _⟩
theorem known_any (c : Int) (hc : 0 ≤ c ∧ c < 4) (w : World) :
    Calls Tryd.prog 20 #[.int .i64 c] w fun e w' => ∃ ao cap, e = .returned (.agg #[.int .i64 2, .int .i64 5, .int .i64 2, .slice ao (knL c).length cap]) ∧ HeldIns w' ao (knL c) ∧ Below w.heap.size w w' := by
  rcases (show c = 0 ∨ c = 1 ∨ c = 2 ∨ c = 3 by omega) with rfl | rfl | rfl | rfl
  · exact known_0 w
  · exact known_1 w
  · exact known_2 w
  · exact known_3 w
end Go.Proofs.YtoepcplbpochpabDoor
