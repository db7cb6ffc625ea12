/-
  Plain mathematics: the unit that Compile makes is right: its code.
-/
import Derived.Test.YtoepcplbpochpabDoorPart15
import Derived.Test.YtoepcplbpochpabDoorPart12
import Derived.Test.YtoepcplbpochpabDoorPart2
import Derived.Test.YtoepcplbpochpabDoorPart10
import Derived.Test.YtoepcplbpochpabDoorPart13

namespace Go.Proofs.YtoepcplbpochpabDoor
open Go.RowKit

theorem field_r {m r k v s : Int} (h : 0 ≤ m ∧ m < r) : fieldE 114 m r k v s = 0 := by unfold fieldE; rw [if_pos rfl, if_neg (by omega)]
theorem field_c {m r k v s : Int} (h : 0 ≤ m ∧ m ≤ 65535) : fieldE 99 m r k v s = 0 := by unfold fieldE; rw [if_neg (by decide), if_pos rfl, if_neg (by omega)]
theorem field_t {m r k v s : Int} (h : 0 ≤ m ∧ m < k) : fieldE 116 m r k v s = 0 := by unfold fieldE; rw [if_neg (by decide), if_neg (by decide), if_pos rfl, if_neg (by omega)]
theorem field_s {m r k v s : Int} (h : 0 ≤ m ∧ m ≤ 99) : fieldE 115 m r k v s = 0 := by unfold fieldE; rw [if_neg (by decide), if_neg (by decide), if_neg (by decide), if_pos rfl, if_neg (by omega)]
theorem field_f {m r k v s : Int} (h : 0 ≤ m ∧ m < s) : fieldE 102 m r k v s = 0 := by unfold fieldE; rw [if_neg (by decide), if_neg (by decide), if_neg (by decide), if_neg (by decide), if_neg (by decide), if_pos rfl, if_neg (by omega)]
theorem field_n (m r k v s : Int) : fieldE 45 m r k v s = 0 := by unfold fieldE; rw [if_neg (by decide), if_neg (by decide), if_neg (by decide), if_neg (by decide), if_neg (by decide), if_neg (by decide)]
theorem insU_zero {x : In4} {K n S : Int} (h : Right K n S x) (hl : x.op ≤ 11 ∨ 15 ≤ x.op) : insE false x K n 0 S = 0 := by
  obtain ⟨o0, o16, rD, rA, rB, rC, rJ, rI, rS, _, rL, rT⟩ := h
  have key : ∀ (o : Nat), x.op = (o : Int) → o < 17 → opB false o = true → fieldE (letterAt o 0) x.d K n 0 S = 0 → fieldE (letterAt o 1) x.a K n 0 S = 0 → fieldE (letterAt o 2) x.b K n 0 S = 0 → insE false x K n 0 S = 0 := fun o h1 h2 h3 h4 h5 h6 => by
    rw [insE_good h1 h2 h3, if_neg (fun k => k h4), if_neg (fun k => k h5)]; exact h6
  rcases (show x.op = 0 ∨ x.op = 1 ∨ x.op = 2 ∨ x.op = 3 ∨ x.op = 4 ∨ x.op = 5 ∨ x.op = 6 ∨ x.op = 7 ∨ x.op = 8 ∨ x.op = 9 ∨ x.op = 10 ∨ x.op = 11 ∨ x.op = 15 ∨ x.op = 16 by omega) with e | e | e | e | e | e | e | e | e | e | e | e | e | e
  · exact key 0 e (by decide) rfl (field_r (rD (.inl e))) (field_c (rC (.inl e))) (field_n _ _ _ _ _)
  · exact key 1 e (by decide) rfl (field_r (rD (.inr (.inl e)))) (field_r (rA (.inl e))) (field_n _ _ _ _ _)
  · exact key 2 e (by decide) rfl (field_r (rD (.inr (.inr (by omega))))) (field_r (rA (.inr (.inl (by omega))))) (field_r (rB (by omega)))
  · exact key 3 e (by decide) rfl (field_r (rD (.inr (.inr (by omega))))) (field_r (rA (.inr (.inl (by omega))))) (field_r (rB (by omega)))
  · exact key 4 e (by decide) rfl (field_r (rD (.inr (.inr (by omega))))) (field_r (rA (.inr (.inl (by omega))))) (field_r (rB (by omega)))
  · exact key 5 e (by decide) rfl (field_r (rD (.inr (.inr (by omega))))) (field_r (rA (.inr (.inl (by omega))))) (field_r (rB (by omega)))
  · exact key 6 e (by decide) rfl (field_r (rD (.inr (.inr (by omega))))) (field_r (rA (.inr (.inl (by omega))))) (field_r (rB (by omega)))
  · exact key 7 e (by decide) rfl (field_n _ _ _ _ _) (field_t (rJ e)) (field_n _ _ _ _ _)
  · exact key 8 e (by decide) rfl (field_n _ _ _ _ _) (field_r (rA (.inr (.inr (.inl e))))) (field_t (rI e))
  · exact key 9 e (by decide) rfl (field_n _ _ _ _ _) (field_r (rA (.inr (.inr (.inr (.inl e)))))) (field_n _ _ _ _ _)
  · exact key 10 e (by decide) rfl (field_n _ _ _ _ _) (field_r (rA (.inr (.inr (.inr (.inr (.inl e))))))) (field_n _ _ _ _ _)
  · exact key 11 e (by decide) rfl (field_n _ _ _ _ _) (field_s (rS e)) (field_n _ _ _ _ _)
  · exact key 15 e (by decide) rfl (field_r (rL e).1) (field_f (rL e).2) (field_n _ _ _ _ _)
  · exact key 16 e (by decide) rfl (field_f (rT e).1) (field_r (rT e).2) (field_n _ _ _ _ _)

/-- What is written, ahead of its targets being set: registers and slots that there are; its targets places of the program. -/
def UOk (K S : Int) (n : Nat) (y : In4) : Prop := Right K n S y ∧ (y.op ≤ 11 ∨ 15 ≤ y.op)
theorem right_mk {K n S : Int} {x : In4} (o0 : 0 ≤ x.op) (o16 : x.op ≤ 16) (hn : ¬ (12 ≤ x.op ∧ x.op ≤ 14)) (hd : (x.op = 0 ∨ x.op = 1 ∨ (2 ≤ x.op ∧ x.op ≤ 6)) → 0 ≤ x.d ∧ x.d < K) (ha : (x.op = 1 ∨ (2 ≤ x.op ∧ x.op ≤ 6) ∨ x.op = 8 ∨ x.op = 9 ∨ x.op = 10) → 0 ≤ x.a ∧ x.a < K)
    (hb : (2 ≤ x.op ∧ x.op ≤ 6) → 0 ≤ x.b ∧ x.b < K) (hc : x.op = 0 → 0 ≤ x.a ∧ x.a ≤ 65535) (h7 : x.op = 7 → 0 ≤ x.a ∧ x.a < n) (h8 : x.op = 8 → 0 ≤ x.b ∧ x.b < n) (h11 : x.op = 11 → 0 ≤ x.a ∧ x.a ≤ 99)
    (h15 : x.op = 15 → (0 ≤ x.d ∧ x.d < K) ∧ 0 ≤ x.a ∧ x.a < S) (h16 : x.op = 16 → (0 ≤ x.d ∧ x.d < S) ∧ 0 ≤ x.a ∧ x.a < K) : Right K n S x :=
  ⟨o0, o16, hd, fun h => ha (by omega), hb, fun h => hc (by omega), h7, h8, h11, fun h => absurd h hn, h15, h16⟩

/-- Homes that there are. -/
structure HomOk (hs : Nat → Bool) (ha : Nat → Nat) (R K S : Nat) : Prop where
  k2 : 2 ≤ K
  reg : ∀ r, r < R → hs r = false → ha r < K
  slot : ∀ r, r < R → hs r = true → ha r < S
theorem fetR_ok {hs : Nat → Bool} {ha : Nat → Nat} {R K S : Nat} (h : HomOk hs ha R K S) {r n : Nat} (hr : r < R) (hn : n ≤ 1) : 0 ≤ fetR hs ha K r n ∧ fetR hs ha K r n < K := by
  have := h.k2
  unfold fetR
  cases e : hs r with
  | true => rw [if_pos rfl]; omega
  | false => rw [if_neg (by decide)]; have := h.reg r hr e; omega
theorem goalR_ok {hs : Nat → Bool} {ha : Nat → Nat} {R K S : Nat} (h : HomOk hs ha R K S) {r : Nat} (hr : r < R) : 0 ≤ goalR hs ha K r ∧ goalR hs ha K r < K := by
  have := h.k2
  unfold goalR
  cases e : hs r with
  | true => rw [if_pos rfl]; omega
  | false => rw [if_neg (by decide)]; have := h.reg r hr e; omega
theorem u_load {K S : Int} {n : Nat} {d a : Int} (hd : 0 ≤ d ∧ d < K) (ha : 0 ≤ a ∧ a < S) : UOk K S n ⟨15, d, a, 0⟩ :=
  ⟨right_mk (by show (0 : Int) ≤ 15; decide) (by show (15 : Int) ≤ 16; decide) (by show ¬ ((12 : Int) ≤ 15 ∧ (15 : Int) ≤ 14); decide) (fun h => by simp at h) (fun h => by simp at h) (fun h => by simp at h) (fun h => by simp at h) (fun h => by simp at h) (fun h => by simp at h) (fun h => by simp at h) (fun _ => ⟨hd, ha⟩) (fun h => by simp at h), .inr (by show (15 : Int) ≤ 15; decide)⟩
theorem u_store {K S : Int} {n : Nat} {d a : Int} (hd : 0 ≤ d ∧ d < S) (ha : 0 ≤ a ∧ a < K) : UOk K S n ⟨16, d, a, 0⟩ :=
  ⟨right_mk (by show (0 : Int) ≤ 16; decide) (by show (16 : Int) ≤ 16; decide) (by show ¬ ((12 : Int) ≤ 16 ∧ (16 : Int) ≤ 14); decide) (fun h => by simp at h) (fun h => by simp at h) (fun h => by simp at h) (fun h => by simp at h) (fun h => by simp at h) (fun h => by simp at h) (fun h => by simp at h) (fun h => by simp at h) (fun _ => ⟨hd, ha⟩), .inr (by show (15 : Int) ≤ 16; decide)⟩
theorem fetC_ok {hs : Nat → Bool} {ha : Nat → Nat} {R K S n : Nat} (h : HomOk hs ha R K S) {r m : Nat} (hr : r < R) (hm : m ≤ 1) : ∀ y ∈ fetC hs ha K r m, UOk K S n y := fun y hy => by
  have := h.k2
  unfold fetC at hy
  cases e : hs r with
  | true => rw [e, if_pos rfl, List.mem_singleton] at hy; subst hy; exact u_load (by omega) (by have := h.slot r hr e; omega)
  | false => rw [e, if_neg (by decide)] at hy; cases hy
theorem keepC_ok {hs : Nat → Bool} {ha : Nat → Nat} {R K S n : Nat} (h : HomOk hs ha R K S) {r : Nat} (hr : r < R) : ∀ y ∈ keepC hs ha K r, UOk K S n y := fun y hy => by
  have := h.k2
  unfold keepC at hy
  cases e : hs r with
  | true => rw [e, if_pos rfl, List.mem_singleton] at hy; subst hy; exact u_store (by have := h.slot r hr e; omega) (by omega)
  | false => rw [e, if_neg (by decide)] at hy; cases hy
theorem insC_ok {hs : Nat → Bool} {ha : Nat → Nat} {R K S n : Nat} {V : Int} (h : HomOk hs ha R K S) {x : In4} (hx : Right R n V x) : ∀ y ∈ insC hs ha K x, UOk K S n y := fun y hy => by
  obtain ⟨o0, _, rD, rA, rB, rC, rJ, rI, rS, _, _, _⟩ := hx
  unfold insC at hy
  split at hy
  · rename_i e
    have hd := rD (.inl e)
    have hdn : x.d.toNat < R := by omega
    rw [List.mem_append, List.mem_singleton] at hy
    rcases hy with rfl | hy
    · exact ⟨right_mk (by show (0 : Int) ≤ 0; decide) (by show (0 : Int) ≤ 16; decide) (by show ¬ ((12 : Int) ≤ 0 ∧ (0 : Int) ≤ 14); decide) (fun _ => goalR_ok h hdn) (fun k => by simp at k) (fun k => by simp at k) (fun _ => rC (.inl e)) (fun k => by simp at k) (fun k => by simp at k) (fun k => by simp at k) (fun k => by simp at k) (fun k => by simp at k), .inl (by show (0 : Int) ≤ 11; decide)⟩
    · exact keepC_ok h hdn y hy
  split at hy
  · rename_i e
    have hd := rD (.inr (.inl e))
    have ha' := rA (.inl e)
    have hdn : x.d.toNat < R := by omega
    have han : x.a.toNat < R := by omega
    unfold copyC at hy
    cases ed : hs x.d.toNat with
    | true =>
      rw [ed, if_pos rfl, List.mem_append, List.mem_singleton] at hy
      rcases hy with hy | rfl
      · exact fetC_ok h han (by omega) y hy
      · exact u_store (by have := h.slot _ hdn ed; omega) (fetR_ok h han (by omega))
    | false =>
      rw [ed, if_neg (by decide)] at hy
      have hdk := h.reg _ hdn ed
      cases ea : hs x.a.toNat with
      | true => rw [ea, if_pos rfl, List.mem_singleton] at hy; subst hy; exact u_load (by omega) (by have := h.slot _ han ea; omega)
      | false =>
        rw [ea, if_neg (by decide), List.mem_singleton] at hy; subst hy
        have hak := h.reg _ han ea
        exact ⟨right_mk (by show (0 : Int) ≤ 1; decide) (by show (1 : Int) ≤ 16; decide) (by show ¬ ((12 : Int) ≤ 1 ∧ (1 : Int) ≤ 14); decide) (fun _ => ⟨by show (0 : Int) ≤ (ha x.d.toNat : Int); omega, by show (ha x.d.toNat : Int) < K; omega⟩) (fun _ => ⟨by show (0 : Int) ≤ (ha x.a.toNat : Int); omega, by show (ha x.a.toNat : Int) < K; omega⟩) (fun k => by simp at k) (fun k => by simp at k) (fun k => by simp at k) (fun k => by simp at k) (fun k => by simp at k) (fun k => by simp at k) (fun k => by simp at k), .inl (by show (1 : Int) ≤ 11; decide)⟩
  split at hy
  · rename_i e
    have hd := rD (.inr (.inr e))
    have ha' := rA (.inr (.inl e))
    have hb := rB e
    have hdn : x.d.toNat < R := by omega
    have han : x.a.toNat < R := by omega
    have hbn : x.b.toNat < R := by omega
    rw [List.mem_append, List.mem_append, List.mem_append, List.mem_singleton] at hy
    rcases hy with ((hy | hy) | rfl) | hy
    · exact fetC_ok h han (by omega) y hy
    · exact fetC_ok h hbn (by omega) y hy
    · exact ⟨right_mk o0 (by show x.op ≤ 16; omega) (by show ¬ ((12 : Int) ≤ x.op ∧ x.op ≤ 14); omega) (fun _ => goalR_ok h hdn) (fun _ => fetR_ok h han (by omega)) (fun _ => fetR_ok h hbn (by omega)) (fun k => by have k' : x.op = 0 := k; omega) (fun k => by have k' : x.op = 7 := k; omega) (fun k => by have k' : x.op = 8 := k; omega) (fun k => by have k' : x.op = 11 := k; omega) (fun k => by have k' : x.op = 15 := k; omega) (fun k => by have k' : x.op = 16 := k; omega), .inl (by show x.op ≤ 11; omega)⟩
    · exact keepC_ok h hdn y hy
  split at hy
  · rename_i e
    have ha' := rA (.inr (.inr (.inl e)))
    have han : x.a.toNat < R := by omega
    rw [List.mem_append, List.mem_singleton] at hy
    rcases hy with hy | rfl
    · exact fetC_ok h han (by omega) y hy
    · exact ⟨right_mk (by show (0 : Int) ≤ 8; decide) (by show (8 : Int) ≤ 16; decide) (by show ¬ ((12 : Int) ≤ 8 ∧ (8 : Int) ≤ 14); decide) (fun k => by simp at k) (fun _ => fetR_ok h han (by omega)) (fun k => by simp at k) (fun k => by simp at k) (fun k => by simp at k) (fun _ => rI e) (fun k => by simp at k) (fun k => by simp at k) (fun k => by simp at k), .inl (by show (8 : Int) ≤ 11; decide)⟩
  split at hy
  · rename_i e
    have ha' := rA (by omega)
    have han : x.a.toNat < R := by omega
    rw [List.mem_append, List.mem_singleton] at hy
    rcases hy with hy | rfl
    · exact fetC_ok h han (by omega) y hy
    · exact ⟨right_mk o0 (by show x.op ≤ 16; omega) (by show ¬ ((12 : Int) ≤ x.op ∧ x.op ≤ 14); omega) (fun k => by have k' : x.op = 0 ∨ x.op = 1 ∨ (2 ≤ x.op ∧ x.op ≤ 6) := k; omega) (fun _ => fetR_ok h han (by omega)) (fun k => by have k' : 2 ≤ x.op ∧ x.op ≤ 6 := k; omega) (fun k => by have k' : x.op = 0 := k; omega) (fun k => by have k' : x.op = 7 := k; omega) (fun k => by have k' : x.op = 8 := k; omega) (fun k => by have k' : x.op = 11 := k; omega) (fun k => by have k' : x.op = 15 := k; omega) (fun k => by have k' : x.op = 16 := k; omega), .inl (by show x.op ≤ 11; omega)⟩
  split at hy
  · rename_i e
    rw [List.mem_singleton] at hy; subst hy
    exact ⟨right_mk o0 (by show x.op ≤ 16; omega) (by show ¬ ((12 : Int) ≤ x.op ∧ x.op ≤ 14); omega) (fun k => by have k' : x.op = 0 ∨ x.op = 1 ∨ (2 ≤ x.op ∧ x.op ≤ 6) := k; omega) (fun k => by have k' : x.op = 1 ∨ (2 ≤ x.op ∧ x.op ≤ 6) ∨ x.op = 8 ∨ x.op = 9 ∨ x.op = 10 := k; omega) (fun k => by have k' : 2 ≤ x.op ∧ x.op ≤ 6 := k; omega) (fun k => by have k' : x.op = 0 := k; omega) (fun k => rJ k) (fun k => by have k' : x.op = 8 := k; omega) (fun k => rS k) (fun k => by have k' : x.op = 15 := k; omega) (fun k => by have k' : x.op = 16 := k; omega), .inl (by show x.op ≤ 11; omega)⟩
  · cases hy
theorem loadC_ok {hs : Nat → Bool} {ha : Nat → Nat} {s : Nat → Bool} {R K S n P : Nat} (h : HomOk hs ha R K S) (hPR : P ≤ R) (hPS : P ≤ S) : ∀ k, k ≤ P → ∀ y ∈ loadC hs ha s k, UOk K S n y
  | 0, _, y, hy => by cases hy
  | k + 1, hk, y, hy => by
    have hy' : y ∈ loadC hs ha s k ++ if (s k && !hs k) = true then [⟨15, ha k, k, 0⟩] else [] := hy
    rw [List.mem_append] at hy'
    rcases hy' with hy | hy
    · exact loadC_ok h hPR hPS k (by omega) y hy
    · by_cases e : (s k && !hs k) = true
      · rw [if_pos e, List.mem_singleton] at hy; subst hy
        rw [Bool.and_eq_true] at e
        have e2 : hs k = false := by cases h : hs k; rfl; rw [h] at e; cases e.2
        exact u_load (by have := h.reg k (by omega) e2; omega) (by omega)
      · rw [if_neg e] at hy; cases hy
theorem wTo_ok {hs : Nat → Bool} {ha : Nat → Nat} {s : Nat → Bool} {R K S P : Nat} {V : Int} {L : List In4} (h : HomOk hs ha R K S) (hPR : P ≤ R) (hPS : P ≤ S) (hL : ∀ i, i < L.length → Right R L.length V (inAt L i)) : ∀ i, i ≤ L.length → ∀ y ∈ wTo hs ha K s P L i, UOk K S L.length y
  | 0, _, y, hy => loadC_ok h hPR hPS P (Nat.le_refl _) y hy
  | i + 1, hi, y, hy => by
    have hy' : y ∈ wTo hs ha K s P L i ++ insC hs ha K (inAt L i) := hy
    rw [List.mem_append] at hy'
    rcases hy' with hy | hy
    · exact wTo_ok h hPR hPS hL i (by omega) y hy
    · exact insC_ok h (hL i (by omega)) y hy
end Go.Proofs.YtoepcplbpochpabDoor

/-
  Plain mathematics: the code of the unit that Compile makes is right.
-/
namespace Go.Proofs.YtoepcplbpochpabDoor
open Go.RowKit

theorem kept_le (L : List In4) (R K : Nat) : keptB L R K ≤ K := by unfold keptB; split <;> omega
theorem hom_no {L : List In4} {R K r : Nat} (hr : r < R) (h : homS L R K r = false) : homA L R K r = colB L R r ∧ colB L R r < keptB L R K := by
  refine ⟨by unfold homA; rw [h, if_neg (by decide)], ?_⟩
  unfold homS at h
  rw [decide_eq_true hr, Bool.true_and, decide_eq_false_iff_not] at h
  omega
theorem hom_yes {L : List In4} {R K r : Nat} (h : homS L R K r = true) : homA L R K r = r ∧ r < R ∧ keptB L R K ≤ colB L R r := by
  refine ⟨by unfold homA; rw [if_pos h], ?_⟩
  unfold homS at h
  rw [Bool.and_eq_true, decide_eq_true_iff, decide_eq_true_iff] at h
  exact h
theorem slots_bound (L : List In4) (P R K : Nat) (hPR : P ≤ R) : P ≤ slotsB L P R K ∧ slotsB L P R K ≤ R := by
  have := sl_ge (homS L R K) P (R - P)
  unfold slotsB
  exact ⟨this.1, by omega⟩
theorem hom_ok (L : List In4) (P R K : Nat) (hK : 2 ≤ K) (hPR : P ≤ R) : HomOk (homS L R K) (homA L R K) R K (slotsB L P R K) := by
  have hsl := sl_ge (homS L R K) P (R - P)
  refine ⟨hK, fun r hr h => ?_, fun r hr h => ?_⟩
  · have := hom_no hr h; have := kept_le L R K; omega
  · rw [(hom_yes h).1]
    by_cases e : r < P
    · have := (slots_bound L P R K hPR).1; omega
    · exact hsl.2.2 r (by omega) (by omega) h

theorem wTo_mono (hs : Nat → Bool) (ha : Nat → Nat) (K : Nat) (s : Nat → Bool) (P : Nat) (L : List In4) (i : Nat) : ∀ d, (wTo hs ha K s P L i).length ≤ (wTo hs ha K s P L (i + d)).length
  | 0 => Nat.le_refl _
  | d + 1 => by
    refine Nat.le_trans (wTo_mono hs ha K s P L i d) ?_
    show _ ≤ (wTo hs ha K s P L (i + d) ++ _).length
    rw [List.length_append]; omega
theorem insC_pos {hs : Nat → Bool} {ha : Nat → Nat} {K : Nat} {x : In4} (h : x.op ≤ 11) (h0 : 0 ≤ x.op) : 1 ≤ (insC hs ha K x).length := by
  unfold insC
  split
  · rw [List.length_append]; simp
  split
  · exact (copyC_len hs ha K _ _).1
  split
  · rw [List.length_append, List.length_append, List.length_append]; simp; omega
  split
  · rw [List.length_append]; simp
  split
  · rw [List.length_append]; simp
  split
  · simp
  · omega
theorem st_lt {hs : Nat → Bool} {ha : Nat → Nat} {K : Nat} {s : Nat → Bool} {P : Nat} {L : List In4} (hn : 1 ≤ L.length) (hl : (inAt L (L.length - 1)).op = 7 ∨ (inAt L (L.length - 1)).op = 10) {i : Nat} (hi : i < L.length) : (wTo hs ha K s P L i).length < (wTo hs ha K s P L L.length).length := by
  obtain ⟨m, hm⟩ : ∃ m, L.length = m + 1 := ⟨L.length - 1, by omega⟩
  have h1 := wTo_mono hs ha K s P L i (m - i)
  rw [show i + (m - i) = m by omega] at h1
  rw [hm, show m + 1 - 1 = m by omega] at hl
  have h2 : 1 ≤ (insC hs ha K (inAt L m)).length := insC_pos (by omega) (by omega)
  rw [hm]
  show _ < (wTo hs ha K s P L m ++ insC hs ha K (inAt L m)).length
  rw [List.length_append]; omega
theorem inAt_map (f : In4 → In4) {C : List In4} {i : Nat} (h : i < C.length) : inAt (C.map f) i = f (inAt C i) := by
  unfold inAt
  rw [List.getD_eq_getElem?_getD, List.getD_eq_getElem?_getD, List.getElem?_map, List.getElem?_eq_getElem h]; rfl
theorem tgt_op (st : Nat → Nat) (x : In4) : (tgt st x).op = x.op := by unfold tgt; split; rfl; split <;> rfl
theorem tgt_right {K S : Int} {n m : Nat} {st : Nat → Nat} {y : In4} (h : Right K n S y) (hst : ∀ i, i < n → st i < m) : Right K m S (tgt st y) := by
  obtain ⟨o0, o16, rD, rA, rB, rC, rJ, rI, rS, rV, rL, rT⟩ := h
  unfold tgt
  by_cases h7 : y.op = 7
  · rw [if_pos h7]
    have := rJ h7
    have := hst y.a.toNat (by omega)
    refine ⟨o0, o16, rD, fun h => ?_, rB, fun h => ?_, fun _ => ?_, fun h => ?_, fun h => ?_, rV, fun h => ?_, fun h => ?_⟩
    all_goals simp only at *
    all_goals omega
  rw [if_neg h7]
  by_cases h8 : y.op = 8
  · rw [if_pos h8]
    have := rI h8
    have := hst y.b.toNat (by omega)
    refine ⟨o0, o16, rD, rA, fun h => ?_, rC, fun h => ?_, fun _ => ?_, rS, rV, rL, rT⟩
    all_goals simp only at *
    all_goals omega
  · rw [if_neg h8]
    exact ⟨o0, o16, rD, rA, rB, rC, fun h => absurd h h7, fun h => absurd h h8, rS, rV, rL, rT⟩
theorem codedFrom_zero {p : Bool} {L : List In4} {r v s : Int} (hi : ∀ i, i < L.length → insE p (inAt L i) r L.length v s = 0) (hl : (inAt L (L.length - 1)).op = 7 ∨ (inAt L (L.length - 1)).op = 10) : ∀ m k, k + m = L.length → codedFrom p L r v s k m = (0, 0)
  | 0, k, _ => by unfold codedFrom; rw [if_neg (by omega)]
  | m + 1, k, hk => by
    unfold codedFrom
    rw [if_neg (fun h => h (hi k (by omega)))]
    exact codedFrom_zero hi hl m (k + 1) (by omega)
theorem inAt_last (A : List In4) (x : In4) : inAt (A ++ [x]) ((A ++ [x]).length - 1) = x := by
  unfold inAt; rw [List.getD_eq_getElem?_getD, List.length_append]; simp
theorem inAt_tail (A B : List In4) (hB : 1 ≤ B.length) : inAt (A ++ B) ((A ++ B).length - 1) = inAt B (B.length - 1) := by
  unfold inAt
  rw [List.getD_eq_getElem?_getD, List.getD_eq_getElem?_getD, List.length_append, List.getElem?_append_right (by omega), show A.length + B.length - 1 - A.length = B.length - 1 by omega]
/-- The code of the unit. -/
theorem code_right {P R V K : Nat} {L : List In4} (hp : RightP P R V L) (hK : 2 ≤ K) {C : List In4} (hC : C = codeB (homS L R K) (homA L R K) K (liveB L 0) P L) :
    (∀ i, i < C.length → Right K C.length (slotsB L P R K) (inAt C i) ∧ ((inAt C i).op ≤ 11 ∨ 15 ≤ (inAt C i).op)) ∧ ((inAt C (C.length - 1)).op = 7 ∨ (inAt C (C.length - 1)).op = 10) ∧ 1 ≤ C.length ∧ C.length ≤ P + 4 * L.length := by
  obtain ⟨W, hW⟩ : ∃ W, W = wTo (homS L R K) (homA L R K) K (liveB L 0) P L L.length := ⟨_, rfl⟩
  have hPR : P ≤ R := by have := hp.pr; omega
  have hlen : C.length = W.length := by rw [hC, hW]; unfold codeB; rw [List.length_map]
  have hpos := wTo_pos (homS L R K) (homA L R K) K (liveB L 0) P hp.n1 hp.last
  have hst : ∀ i, i < L.length → stF (homS L R K) (homA L R K) K (liveB L 0) P L L.length i < C.length := fun i hi => by
    unfold stF; rw [if_pos hi, hlen, hW]; exact st_lt hp.n1 hp.last hi
  have hok := wTo_ok (s := liveB L 0) (hom_ok L P R K hK hPR) hPR (slots_bound L P R K hPR).1 hp.ins L.length (Nat.le_refl _)
  have hat : ∀ i, i < C.length → inAt C i = tgt (stF (homS L R K) (homA L R K) K (liveB L 0) P L L.length) (inAt W i) := fun i hi => by
    rw [hC, hW]; unfold codeB; exact inAt_map _ (by rw [← hW, ← hlen]; exact hi)
  refine ⟨fun i hi => ?_, ?_, by rw [hlen, hW]; exact hpos, by rw [hlen, hW]; exact wTo_len _ _ _ _ _ _ _⟩
  · have hu := hok (inAt W i) (by rw [← hW]; exact inAt_mem (by rw [← hlen]; exact hi))
    rw [hat i hi, tgt_op]
    exact ⟨tgt_right hu.1 hst, hu.2⟩
  · rw [hat _ (by rw [hlen, hW]; omega), tgt_op, hlen]
    obtain ⟨m, hm⟩ : ∃ m, L.length = m + 1 := ⟨L.length - 1, by have := hp.n1; omega⟩
    have hl := hp.last
    rw [hm, show m + 1 - 1 = m by omega] at hl
    have e : W = wTo (homS L R K) (homA L R K) K (liveB L 0) P L m ++ insC (homS L R K) (homA L R K) K (inAt L m) := by rw [hW, hm]; rfl
    rw [e, inAt_tail _ _ (insC_pos (by omega) (by omega))]
    unfold insC
    rcases hl with h | h
    · rw [if_neg (by omega), if_neg (by omega), if_neg (by omega), if_neg (by omega), if_neg (by omega), if_pos (.inl h)]
      left; exact h
    · rw [if_neg (by omega), if_neg (by omega), if_neg (by omega), if_neg (by omega), if_pos (.inr h), inAt_last]
      right; exact h
theorem code_coded {P R V K : Nat} {L : List In4} (hp : RightP P R V L) (hK : 2 ≤ K) : codedE false (codeB (homS L R K) (homA L R K) K (liveB L 0) P L) K 0 (slotsB L P R K) = (0, 0) := by
  obtain ⟨h1, h2, _, _⟩ := code_right hp hK rfl
  unfold codedE
  exact codedFrom_zero (fun i hi => insU_zero (h1 i hi).1 (h1 i hi).2) h2 _ 0 (by omega)
end Go.Proofs.YtoepcplbpochpabDoor

/-
  Plain mathematics: a table that grows by one place at a time: it is a table, and what it tells.
-/
namespace Go.Proofs.YtoepcplbpochpabDoor
open Go.RowKit

theorem rg_left {A : List Rg} {x : Rg} {i : Nat} (h : i < A.length) : rg (A ++ [x]) i = rg A i := by
  unfold rg; rw [List.getD_eq_getElem?_getD, List.getD_eq_getElem?_getD, List.getElem?_append_left h]
theorem rg_last (A : List Rg) (x : Rg) : rg (A ++ [x]) A.length = x := by
  unfold rg; rw [List.getD_eq_getElem?_getD, List.getElem?_append_right (Nat.le_refl _)]; simp
theorem tab_cut {A : List Rg} {x : Rg} : tabTo (A ++ [x]) A.length = tabTo A A.length := by
  unfold tabTo
  rw [Bool.eq_iff_iff, List.all_eq_true, List.all_eq_true]
  refine forall_congr' (fun i => forall_congr' (fun hi => ?_))
  rw [List.mem_range] at hi
  rw [rg_left hi]
  by_cases h0 : i = 0
  · simp [h0]
  · rw [rg_left (show i - 1 < A.length by omega)]
/-- Does x stand rightly behind A? -/
def behindT (A : List Rg) (x : Rg) : Prop := A.length = 0 ∨ follows (rg A (A.length - 1)) x = true
theorem tab_snoc {A : List Rg} {x : Rg} : tabTo (A ++ [x]) (A ++ [x]).length = true ↔ tabTo A A.length = true ∧ isRg x = true ∧ behindT A x := by
  rw [List.length_append, show ([x] : List Rg).length = 1 from rfl, tabTo_succ, tab_cut, rg_last, Bool.and_eq_true, Bool.and_eq_true, Bool.or_eq_true, decide_eq_true_iff]
  unfold behindT
  by_cases h0 : A.length = 0
  · simp [h0]
  · rw [rg_left (show A.length - 1 < A.length by omega)]
theorem set_last (A : List Rg) (l x : Rg) : (A ++ [l]).set ((A ++ [l]).length - 1) x = A ++ [x] := by
  rw [List.length_append, show A.length + [l].length - 1 = A.length by simp, List.set_append_right _ _ (Nat.le_refl _)]; simp
theorem addR_nil (g : Rg) : addR [] g = [g] := rfl
theorem addR_snoc (A : List Rg) (l g : Rg) : addR (A ++ [l]) g = if goesB l g = true then A ++ [⟨l.v, l.f, g.t, l.k, l.a⟩] else A ++ [l] ++ [g] := by
  have e : rg (A ++ [l]) ((A ++ [l]).length - 1) = l := by rw [List.length_append, show A.length + [l].length - 1 = A.length by simp]; exact rg_last A l
  unfold addR
  rw [e]
  by_cases h : goesB l g = true
  · rw [if_pos ⟨by simp, h⟩, if_pos h, set_last]
  · rw [if_neg (fun k => h k.2), if_neg h]
theorem snoc_cases (R : List Rg) : R = [] ∨ ∃ A l, R = A ++ [l] := by
  rcases Nat.eq_zero_or_pos R.length with h | h
  · exact .inl (List.length_eq_zero_iff.1 h)
  · exact .inr ⟨R.dropLast, R.getLast (fun e => by rw [e] at h; simp at h), (List.dropLast_concat_getLast _).symm⟩
/-- A table whose last range ends ahead of the place p of the variable v. -/
def GoodT (R : List Rg) (v p : Int) : Prop := tabTo R R.length = true ∧ ∀ A l, R = A ++ [l] → l.v < v ∨ (l.v = v ∧ l.t ≤ p)
theorem goodT_nil (v p : Int) : GoodT [] v p := ⟨rfl, fun A l e => by have := congrArg List.length e; simp at this⟩
theorem GoodT.on {R : List Rg} {v p q : Int} (h : GoodT R v p) (hq : p ≤ q) : GoodT R v q := ⟨h.1, fun A l e => by have := h.2 A l e; omega⟩
theorem GoodT.next {R : List Rg} {v p q : Int} (h : GoodT R v p) : GoodT R (v + 1) q := ⟨h.1, fun A l e => by have := h.2 A l e; omega⟩
theorem isRg_iff (r : Rg) : isRg r = true ↔ (0 ≤ r.v ∧ r.v < 4 ∧ 0 ≤ r.f ∧ r.f < r.t ∧ r.t ≤ 164 ∧ 0 ≤ r.k ∧ r.k ≤ 2 ∧ 0 ≤ r.a ∧ r.a ≤ 65535) := by unfold isRg; rw [decide_eq_true_iff]
theorem snoc_inj {A B : List Rg} {x y : Rg} (h : A ++ [x] = B ++ [y]) : A = B ∧ x = y := by
  have := List.append_inj' h rfl
  exact ⟨this.1, by simpa using this.2⟩
theorem goes_iff (a b : Rg) : goesB a b = true ↔ a.v = b.v ∧ a.t = b.f ∧ a.k = b.k ∧ a.a = b.a := by
  unfold goesB
  rw [Bool.and_eq_true, Bool.and_eq_true, Bool.and_eq_true, beq_iff_eq, beq_iff_eq, beq_iff_eq, beq_iff_eq]
  exact ⟨fun ⟨⟨⟨a, b⟩, c⟩, d⟩ => ⟨a, b, c, d⟩, fun ⟨a, b, c, d⟩ => ⟨⟨⟨a, b⟩, c⟩, d⟩⟩
theorem add_good {R : List Rg} {g : Rg} {p : Int} (h : GoodT R g.v p) (hg : isRg g = true) (hf : g.f = p) (ht : g.t = p + 1) : GoodT (addR R g) g.v (p + 1) := by
  rcases snoc_cases R with rfl | ⟨A, l, rfl⟩
  · rw [addR_nil]
    refine ⟨(tab_snoc (A := []) (x := g)).2 ⟨rfl, hg, .inl rfl⟩, fun A l e => ?_⟩
    obtain ⟨_, rfl⟩ := snoc_inj (A := []) e
    omega
  · obtain ⟨h1, h2⟩ := h
    have hl := h2 A l rfl
    obtain ⟨t1, t2, t3⟩ := tab_snoc.1 h1
    rw [addR_snoc]
    by_cases e : goesB l g = true
    · rw [if_pos e]
      obtain ⟨e1, e2, e3, e4⟩ := (goes_iff l g).1 e
      have hlr := (isRg_iff l).1 t2
      have hgr := (isRg_iff g).1 hg
      refine ⟨tab_snoc.2 ⟨t1, (isRg_iff _).2 ?_, ?_⟩, fun B m e => ?_⟩
      · simp only; omega
      · rcases t3 with t3 | t3
        · exact .inl t3
        · right
          unfold follows at t3 ⊢
          exact t3
      · obtain ⟨_, rfl⟩ := snoc_inj e
        simp only; omega
    · rw [if_neg e]
      refine ⟨tab_snoc.2 ⟨h1, hg, .inr ?_⟩, fun B m e => ?_⟩
      · have el : rg (A ++ [l]) ((A ++ [l]).length - 1) = l := by rw [List.length_append, show A.length + [l].length - 1 = A.length by simp]; exact rg_last A l
        rw [el]
        have e' : ¬ (l.v = g.v ∧ l.t = g.f ∧ l.k = g.k ∧ l.a = g.a) := fun k => e ((goes_iff l g).2 k)
        unfold follows
        by_cases hv : l.v ≠ g.v
        · rw [if_pos hv, decide_eq_true_iff]; omega
        · rw [if_neg hv]
          by_cases htt : l.t ≠ g.f
          · rw [if_pos htt, decide_eq_true_iff]; omega
          · rw [if_neg htt, decide_eq_true_iff]
            have hv' : l.v = g.v := Classical.not_not.1 hv
            have ht' : l.t = g.f := Classical.not_not.1 htt
            by_cases hk : l.k = g.k
            · right; intro ha; exact e' ⟨hv', ht', hk, ha⟩
            · exact .inl hk
      · obtain ⟨_, rfl⟩ := snoc_inj e
        omega
/-- A table tells of the variable x at the place q: the kind k, the place a. -/
def Tells (R : List Rg) (x q k a : Int) : Prop := ∃ r ∈ R, r.v = x ∧ r.f ≤ q ∧ q < r.t ∧ r.k = k ∧ r.a = a
theorem add_tells {R : List Rg} {g : Rg} {p : Int} (h : GoodT R g.v p) (hf : g.f = p) (ht : g.t = p + 1) (x q k a : Int) : Tells (addR R g) x q k a ↔ Tells R x q k a ∨ (x = g.v ∧ q = p ∧ k = g.k ∧ a = g.a) := by
  have hone : (∃ r ∈ [g], r.v = x ∧ r.f ≤ q ∧ q < r.t ∧ r.k = k ∧ r.a = a) ↔ (x = g.v ∧ q = p ∧ k = g.k ∧ a = g.a) := by
    constructor
    · rintro ⟨r, hr, h1, h2, h3, h4, h5⟩
      rw [List.mem_singleton] at hr; subst hr
      omega
    · rintro ⟨h1, h2, h3, h4⟩
      exact ⟨g, List.mem_singleton.2 rfl, by omega⟩
  have happ : ∀ A B : List Rg, Tells (A ++ B) x q k a ↔ Tells A x q k a ∨ Tells B x q k a := fun A B => by
    unfold Tells
    constructor
    · rintro ⟨r, hr, h⟩
      rw [List.mem_append] at hr
      exact hr.elim (fun hr => .inl ⟨r, hr, h⟩) (fun hr => .inr ⟨r, hr, h⟩)
    · rintro (⟨r, hr, h⟩ | ⟨r, hr, h⟩)
      · exact ⟨r, List.mem_append.2 (.inl hr), h⟩
      · exact ⟨r, List.mem_append.2 (.inr hr), h⟩
  rcases snoc_cases R with rfl | ⟨A, l, rfl⟩
  · rw [addR_nil]
    refine hone.trans ⟨.inr, fun h => h.resolve_left ?_⟩
    rintro ⟨r, hr, _⟩; cases hr
  · rw [addR_snoc]
    by_cases e : goesB l g = true
    · rw [if_pos e, happ, happ]
      obtain ⟨e1, e2, e3, e4⟩ := (goes_iff l g).1 e
      have hlt : l.f < l.t := isRg_lt (tab_snoc.1 h.1).2.1
      have hlast : Tells [⟨l.v, l.f, g.t, l.k, l.a⟩] x q k a ↔ Tells [l] x q k a ∨ (x = g.v ∧ q = p ∧ k = g.k ∧ a = g.a) := by
        unfold Tells
        constructor
        · rintro ⟨r, hr, h1, h2, h3, h4, h5⟩
          rw [List.mem_singleton] at hr; subst hr
          simp only at h1 h2 h3 h4 h5
          by_cases hq : q < l.t
          · exact .inl ⟨l, List.mem_singleton.2 rfl, h1, h2, hq, h4, h5⟩
          · right; omega
        · rintro (⟨r, hr, h1, h2, h3, h4, h5⟩ | ⟨h1, h2, h3, h4⟩)
          · rw [List.mem_singleton] at hr; subst hr
            exact ⟨_, List.mem_singleton.2 rfl, h1, h2, by show q < g.t; omega, h4, h5⟩
          · exact ⟨_, List.mem_singleton.2 rfl, by show l.v = x; omega, by show l.f ≤ q; omega, by show q < g.t; omega, by show l.k = k; omega, by show l.a = a; omega⟩
      rw [hlast]
      exact ⟨fun h => h.elim (fun h => .inl (.inl h)) (fun h => h.elim (fun h => .inl (.inr h)) .inr), fun h => h.elim (fun h => h.elim .inl (fun h => .inr (.inl h))) (fun h => .inr (.inr h))⟩
    · rw [if_neg e, happ]
      exact ⟨fun h => h.elim .inl (fun h => .inr (hone.1 h)), fun h => h.elim .inl (fun h => .inr (hone.2 h))⟩

/-- What is told of a place of the program. -/
def TellsAt (hs : Nat → Bool) (ha : Nat → Nat) (st : Nat → Nat) (L : List In4) (v i : Nat) (x q k a : Int) : Prop :=
  (inAt L i).op = 11 ∧ canB (factB L i v) (liveB L i) = true ∧ x = v ∧ q = st i ∧ k = placeK (factB L i v) hs ∧ a = placeA (factB L i v) ha
/-- Where what comes of the instructions begins: a Stop comes to one. -/
structure Pos (L : List In4) (st Q : Nat → Nat) : Prop where
  st : ∀ i, i < L.length → st i = Q i
  up : ∀ i, i < L.length → Q i ≤ Q (i + 1)
  stop : ∀ i, i < L.length → (inAt L i).op = 11 → Q (i + 1) = Q i + 1
theorem Pos.mono {L : List In4} {st Q : Nat → Nat} (h : Pos L st Q) (i : Nat) : ∀ d, i + d ≤ L.length → Q i ≤ Q (i + d)
  | 0, _ => Nat.le_refl _
  | d + 1, hd => Nat.le_trans (h.mono i d (by omega)) (h.up (i + d) (by omega))
theorem rngI_good {hs : Nat → Bool} {ha : Nat → Nat} {st Q : Nat → Nat} {L : List In4} {v : Nat} {R : List Rg} (hp : Pos L st Q) (hR : GoodT R v (Q 0)) (hv : v < 4) (hQ : Q L.length ≤ 164)
    (hpl : ∀ i, i < L.length → canB (factB L i v) (liveB L i) = true → 0 ≤ placeA (factB L i v) ha ∧ placeA (factB L i v) ha ≤ 65535) :
    ∀ k, k ≤ L.length → GoodT (rngI hs ha st L v R k) v (Q k) ∧ ∀ x q kk a, Tells (rngI hs ha st L v R k) x q kk a ↔ Tells R x q kk a ∨ ∃ i, i < k ∧ TellsAt hs ha st L v i x q kk a
  | 0, _ => ⟨hR, fun x q kk a => ⟨.inl, fun h => h.elim id (fun ⟨i, hi, _⟩ => by omega)⟩⟩
  | k + 1, hk => by
    obtain ⟨ih1, ih2⟩ := rngI_good hp hR hv hQ hpl k (by omega)
    have hup := hp.up k (by omega)
    show GoodT (rngS hs ha st L v k _) v (Q (k + 1)) ∧ ∀ x q kk a, Tells (rngS hs ha st L v k _) x q kk a ↔ _
    unfold rngS
    by_cases h : (inAt L k).op = 11 ∧ canB (factB L k v) (liveB L k) = true
    · rw [if_pos h]
      have hq := hp.stop k (by omega) h.1
      have hs' := hp.st k (by omega)
      have hle := hp.mono (k + 1) (L.length - (k + 1)) (by omega)
      rw [show k + 1 + (L.length - (k + 1)) = L.length by omega] at hle
      obtain ⟨a0, a1⟩ := hpl k (by omega) h.2
      have hk3 : 0 ≤ placeK (factB L k v) hs ∧ placeK (factB L k v) hs ≤ 2 := by
        unfold placeK
        split
        · exact ⟨by decide, by decide⟩
        split
        · exact ⟨by decide, by decide⟩
        · exact ⟨by decide, by decide⟩
      have hg : isRg ⟨v, st k, (st k : Int) + 1, placeK (factB L k v) hs, placeA (factB L k v) ha⟩ = true := (isRg_iff _).2 (by simp only; omega)
      have ih1' : GoodT (rngI hs ha st L v R k) (Rg.v ⟨v, st k, (st k : Int) + 1, placeK (factB L k v) hs, placeA (factB L k v) ha⟩) (Q k) := ih1
      refine ⟨?_, fun x q kk a => ?_⟩
      · have := add_good ih1' hg (by show (st k : Int) = Q k; omega) (by show (st k : Int) + 1 = Q k + 1; omega)
        exact GoodT.on this (by omega)
      · rw [add_tells ih1' (by show (st k : Int) = Q k; omega) (by show (st k : Int) + 1 = Q k + 1; omega), ih2]
        constructor
        · rintro ((h1 | ⟨i, hi, h1⟩) | ⟨h1, h2, h3, h4⟩)
          · exact .inl h1
          · exact .inr ⟨i, by omega, h1⟩
          · exact .inr ⟨k, by omega, h.1, h.2, h1, by omega, h3, h4⟩
        · rintro (h1 | ⟨i, hi, h1⟩)
          · exact .inl (.inl h1)
          · by_cases e : i = k
            · subst e; obtain ⟨_, _, g1, g2, g3, g4⟩ := h1; exact .inr ⟨g1, by omega, g3, g4⟩
            · exact .inl (.inr ⟨i, by omega, h1⟩)
    · rw [if_neg h]
      refine ⟨ih1.on (by omega), fun x q kk a => ?_⟩
      rw [ih2]
      constructor
      · rintro (h1 | ⟨i, hi, h1⟩)
        · exact .inl h1
        · exact .inr ⟨i, by omega, h1⟩
      · rintro (h1 | ⟨i, hi, h1⟩)
        · exact .inl h1
        · by_cases e : i = k
          · subst e; exact absurd ⟨h1.1, h1.2.1⟩ h
          · exact .inr ⟨i, by omega, h1⟩
theorem rngV_good {hs : Nat → Bool} {ha : Nat → Nat} {st Q : Nat → Nat} {L : List In4} (hp : Pos L st Q) (hQ : Q L.length ≤ 164)
    (hpl : ∀ v i, v < 4 → i < L.length → canB (factB L i v) (liveB L i) = true → 0 ≤ placeA (factB L i v) ha ∧ placeA (factB L i v) ha ≤ 65535) :
    ∀ v, v ≤ 4 → GoodT (rngV hs ha st L v) v (Q 0) ∧ ∀ x q kk a, Tells (rngV hs ha st L v) x q kk a ↔ ∃ u i, u < v ∧ i < L.length ∧ TellsAt hs ha st L u i x q kk a
  | 0, _ => ⟨goodT_nil _ _, fun x q kk a => ⟨fun ⟨r, hr, _⟩ => (by cases hr), fun ⟨u, i, hu, _⟩ => (by omega)⟩⟩
  | v + 1, hv => by
    obtain ⟨ih1, ih2⟩ := rngV_good hp hQ hpl v (by omega)
    obtain ⟨h1, h2⟩ := rngI_good (hs := hs) (ha := ha) hp ih1 (by omega) hQ (fun i hi => hpl v i (by omega) hi) L.length (Nat.le_refl _)
    refine ⟨?_, fun x q kk a => ?_⟩
    · have := h1.next (q := (Q 0 : Int))
      rw [show ((v : Int) + 1) = ((v + 1 : Nat) : Int) by omega] at this
      exact this
    · show Tells (rngI hs ha st L v (rngV hs ha st L v) L.length) x q kk a ↔ _
      rw [h2, ih2]
      constructor
      · rintro (⟨u, i, hu, hi, h⟩ | ⟨i, hi, h⟩)
        · exact ⟨u, i, by omega, hi, h⟩
        · exact ⟨v, i, by omega, hi, h⟩
      · rintro ⟨u, i, hu, hi, h⟩
        by_cases e : u = v
        · subst e; exact .inr ⟨i, hi, h⟩
        · exact .inl ⟨u, i, by omega, hi, h⟩
end Go.Proofs.YtoepcplbpochpabDoor

/-
  Plain mathematics: the unit that Compile makes is right, and what its table tells.
-/
namespace Go.Proofs.YtoepcplbpochpabDoor
open Go.RowKit

/-- A variable is tied to constants that may be. -/
theorem fact_const {P R V : Int} {L : List In4} (hp : RightP P R V L) (i v : Nat) : (factB L i v).k = 2 → 0 ≤ (factB L i v).a ∧ (factB L i v).a ≤ 65535 := by
  unfold factB
  rw [factM_pass]
  refine Chaos.iter_inv (n := L.length) (f := sprF L v) (I := fun h => ∀ j, (h j).k = 2 → 0 ≤ (h j).a ∧ (h j).a ≤ 65535) (fun k hk g hg => ?_) (List.range L.length) (fun i hi => List.mem_range.1 hi) _ startF (fun j h => ?_) i
  · have hx := hp.ins k hk
    have hb : ∀ f : Ft, (f.k = 2 → 0 ≤ f.a ∧ f.a ≤ 65535) → (behF (inAt L k) v f).k = 2 → 0 ≤ (behF (inAt L k) v f).a ∧ (behF (inAt L k) v f).a ≤ 65535 := fun f hf => by
      unfold behF
      split
      · exact hf
      split
      · intro h; cases h
      split
      · split
        · intro h; cases h
        · split
          · rename_i h13
            intro _
            exact hx.2.2.2.2.2.1 (.inr h13)
          · intro h; cases h
      · exact hf
    have hm : ∀ f g : Ft, (f.k = 2 → 0 ≤ f.a ∧ f.a ≤ 65535) → (g.k = 2 → 0 ≤ g.a ∧ g.a ≤ 65535) → (metF f g).k = 2 → 0 ≤ (metF f g).a ∧ (metF f g).a ≤ 65535 := fun f g hf hg => by
      unfold metF
      split
      · exact hg
      split
      · exact hf
      · intro h; cases h
    have step : ∀ (p : Int) (f : Ft) (h : Nat → Ft), (f.k = 2 → 0 ≤ f.a ∧ f.a ≤ 65535) → (∀ j, (h j).k = 2 → 0 ≤ (h j).a ∧ (h j).a ≤ 65535) → ∀ j, (bring p f h j).k = 2 → 0 ≤ (bring p f h j).a ∧ (bring p f h j).a ≤ 65535 := fun p f h hf hh j => by
      unfold bring
      split
      · exact hh j
      · show (if j = p.toNat then metF (h j) f else h j).k = 2 → 0 ≤ (if j = p.toNat then metF (h j) f else h j).a ∧ (if j = p.toNat then metF (h j) f else h j).a ≤ 65535
        split
        · exact hm _ _ (hh j) hf
        · exact hh j
    exact step _ _ _ (hb _ (hg k)) (step _ _ _ (hb _ (hg k)) hg)
  · unfold startF at h
    split at h <;> cases h

/-- The places in the unit's code. -/
def cmpS (P R K : Nat) (L : List In4) : Nat → Nat := stF (homS L R K) (homA L R K) K (liveB L 0) P L L.length
def cmpQ (P R K : Nat) (L : List In4) : Nat → Nat := fun i => (wTo (homS L R K) (homA L R K) K (liveB L 0) P L i).length
theorem cmp_pos (P R K : Nat) (L : List In4) : Pos L (cmpS P R K L) (cmpQ P R K L) := by
  refine ⟨fun i hi => ?_, fun i hi => ?_, fun i hi h => ?_⟩
  · unfold cmpS cmpQ stF; rw [if_pos hi]
  · exact wTo_mono (homS L R K) (homA L R K) K (liveB L 0) P L i 1
  · unfold cmpQ
    show (wTo (homS L R K) (homA L R K) K (liveB L 0) P L i ++ insC (homS L R K) (homA L R K) K (inAt L i)).length = _
    rw [List.length_append]
    have : insC (homS L R K) (homA L R K) K (inAt L i) = [⟨(inAt L i).op, 0, (inAt L i).a, 0⟩] := by
      unfold insC; rw [if_neg (by omega), if_neg (by omega), if_neg (by omega), if_neg (by omega), if_neg (by omega), if_pos (.inr h)]
    rw [this]; rfl
theorem cmpC_len {P R K : Nat} {L : List In4} : (cmpC P R K L).length = cmpQ P R K L L.length := by unfold cmpC codeB cmpQ; rw [List.length_map]

theorem can_place {P R V K : Nat} {L : List In4} (hp : RightP P R V L) (v i : Nat) (hc : canB (factB L i v) (liveB L i) = true) :
    ((factB L i v).k = 2 ∧ placeK (factB L i v) (homS L R K) = 2 ∧ placeA (factB L i v) (homA L R K) = (factB L i v).a ∧ 0 ≤ (factB L i v).a ∧ (factB L i v).a ≤ 65535) ∨
    (∃ r : Nat, (factB L i v).k = 3 ∧ (factB L i v).a = r ∧ r < R ∧ liveB L i r = true ∧ placeK (factB L i v) (homS L R K) = (if homS L R K r = true then 1 else 0) ∧ placeA (factB L i v) (homA L R K) = homA L R K r) := by
  have h3 := fact_reg hp i v
  have h2 := fact_const hp i v
  generalize factB L i v = f at *
  unfold canB at hc
  rw [Bool.or_eq_true, Bool.and_eq_true, beq_iff_eq, beq_iff_eq] at hc
  by_cases e : f.k = 2
  · left; unfold placeK placeA; rw [if_pos e, if_pos e]; exact ⟨e, rfl, rfl, h2 e⟩
  · right
    obtain ⟨hk, hl⟩ := hc.resolve_left e
    obtain ⟨a0, a1⟩ := h3 hk
    refine ⟨f.a.toNat, hk, by omega, by omega, hl, ?_, ?_⟩
    · unfold placeK; rw [if_neg e]
    · unfold placeA; rw [if_neg e]
theorem cmp_table {P R V K : Nat} {L : List In4} (hp : RightP P R V L) (hK : 2 ≤ K) (hK' : K ≤ 16) :
    isTab (cmpR P R V K L) = true ∧ (∀ x q kk a, Tells (cmpR P R V K L) x q kk a ↔ ∃ u i, u < V ∧ i < L.length ∧ TellsAt (homS L R K) (homA L R K) (cmpS P R K L) L u i x q kk a) := by
  have hPR : P ≤ R := by have := hp.pr; omega
  have hV : V ≤ 4 := by have := hp.v4; omega
  have hok := hom_ok L P R K hK hPR
  have hsl := slots_bound L P R K hPR
  have hq : cmpQ P R K L L.length ≤ 164 := by
    have := wTo_len (homS L R K) (homA L R K) K (liveB L 0) P L L.length
    have := hp.p4; have := hp.n40
    unfold cmpQ; omega
  have hR12 := hp.r12
  have hpl : ∀ v i, v < 4 → i < L.length → canB (factB L i v) (liveB L i) = true → 0 ≤ placeA (factB L i v) (homA L R K) ∧ placeA (factB L i v) (homA L R K) ≤ 65535 := fun v i _ _ hc => by
    rcases can_place (K := K) hp v i hc with ⟨_, _, h3, h4, h5⟩ | ⟨r, _, _, hr, _, _, h6⟩
    · rw [h3]; exact ⟨h4, h5⟩
    · rw [h6]
      cases e : homS L R K r with
      | true => have := hok.slot r hr e; omega
      | false => have := hok.reg r hr e; omega
  obtain ⟨h1, h2⟩ := rngV_good (hs := homS L R K) (ha := homA L R K) (cmp_pos P R K L) hq hpl V hV
  refine ⟨?_, h2⟩
  unfold isTab
  rw [Bool.and_eq_true, decide_eq_true_iff]
  refine ⟨?_, h1.1⟩
  have := rngV_len (homS L R K) (homA L R K) (cmpS P R K L) L V
  have h3 : V * L.length ≤ 4 * 40 := Nat.mul_le_mul hV hp.n40
  exact Nat.le_trans this (by omega)
theorem rg_mem {R : List Rg} {i : Nat} (h : i < R.length) : rg R i ∈ R := by
  unfold rg; rw [List.getD_eq_getElem?_getD, List.getElem?_eq_getElem h]; exact List.getElem_mem h
theorem cmp_in {P R V K : Nat} {L : List In4} (hp : RightP P R V L) (hK : 2 ≤ K) (hK' : K ≤ 16) : TabIn K (slotsB L P R K) V (cmpC P R K L).length (cmpR P R V K L) := fun j hj => by
  obtain ⟨h1, h2⟩ := cmp_table hp hK hK'
  have hPR : P ≤ R := by have := hp.pr; omega
  have hok := hom_ok L P R K hK hPR
  have hrg := (isRg_iff _).1 (isTab_rg h1 hj)
  obtain ⟨u, i, hu, hi, g1, g2, g3, g4, g5, g6⟩ := (h2 (rg (cmpR P R V K L) j).v ((rg (cmpR P R V K L) j).t - 1) (rg (cmpR P R V K L) j).k (rg (cmpR P R V K L) j).a).1 ⟨rg (cmpR P R V K L) j, rg_mem hj, rfl, by omega, by omega, rfl, rfl⟩
  have hs := (cmp_pos P R K L).st i hi
  have hst := (cmp_pos P R K L).stop i hi g1
  have hle := (cmp_pos P R K L).mono (i + 1) (L.length - (i + 1)) (by omega)
  rw [show i + 1 + (L.length - (i + 1)) = L.length by omega] at hle
  refine ⟨by omega, by rw [cmpC_len]; omega, fun hk => ?_, fun hk => ?_⟩
  · rcases can_place (K := K) hp u i g2 with ⟨_, h3, _⟩ | ⟨r, _, _, hr, _, h5, h6⟩
    · omega
    · rw [g6, h6]
      cases e : homS L R K r with
      | true => rw [e, if_pos rfl] at h5; omega
      | false => have := hok.reg r hr e; omega
  · rcases can_place (K := K) hp u i g2 with ⟨_, h3, _⟩ | ⟨r, _, _, hr, _, h5, h6⟩
    · omega
    · rw [g6, h6]
      cases e : homS L R K r with
      | true => have := hok.slot r hr e; omega
      | false => rw [e, if_neg (by decide)] at h5; omega
/-- The unit is right. -/
theorem unit_ok {P R V K : Nat} {L : List In4} (hp : RightP P R V L) (hK : 2 ≤ K) (hK' : K ≤ 16) : unitE K (slotsB L P R K) P V (cmpC P R K L) (encT (cmpR P R V K L)) = (0, 0) ∧ TabS (encT (cmpR P R V K L)) (cmpR P R V K L) := by
  have hPR : P ≤ R := by have := hp.pr; omega
  have hsl := slots_bound L P R K hPR
  obtain ⟨_, _, c1, c2⟩ := code_right hp hK (C := cmpC P R K L) rfl
  have ht := cmp_table hp hK hK'
  have hT : TabS (encT (cmpR P R V K L)) (cmpR P R V K L) := by
    refine ⟨ht.1, ?_⟩
    have e : encT (cmpR P R V K L) = wrS (flat (cmpR P R V K L)) := by
      unfold encT; rw [if_pos ht.1, encAll]
    rw [e, wrS_data]
  have hn40 := hp.n40
  have hp4 := hp.p4
  have hr12 := hp.r12
  have hv0 := hp.v0
  have hv4 := hp.v4
  refine ⟨?_, hT⟩
  rw [unitE_good (by unfold UnitBad; omega), show codedE false (cmpC P R K L) K 0 (slotsB L P R K) = (0, 0) from code_coded hp hK, if_neg (fun h => h rfl), tabB_yes ⟨_, hT, cmp_in hp hK hK'⟩, if_pos rfl]
end Go.Proofs.YtoepcplbpochpabDoor
