/-
  Plain mathematics: passes over places that only ever raise what is found at a place come to an end.
-/
import Derived.Test.YtoepcplbpochpaaDoorIns
namespace Go.Proofs.YtoepcplbpochpaaDoor
namespace Chaos

def sumTo (m : Nat → Nat) : Nat → Nat
  | 0 => 0
  | k + 1 => sumTo m k + m k
theorem sumTo_le {m m' : Nat → Nat} : ∀ n, (∀ i, i < n → m i ≤ m' i) → sumTo m n ≤ sumTo m' n
  | 0, _ => Nat.le_refl _
  | k + 1, h => Nat.add_le_add (sumTo_le k (fun i hi => h i (by omega))) (h k (by omega))
theorem sumTo_eq {m m' : Nat → Nat} : ∀ n, (∀ i, i < n → m i ≤ m' i) → sumTo m' n ≤ sumTo m n → ∀ i, i < n → m i = m' i
  | 0, _, _, i, hi => by omega
  | k + 1, h, he, i, hi => by
    have h1 := sumTo_le k (fun i hi => h i (by omega))
    have h2 := h k (by omega)
    have he' : sumTo m' k + m' k ≤ sumTo m k + m k := he
    by_cases e : i = k
    · subst e; omega
    · exact sumTo_eq k (fun i hi => h i (by omega)) (by omega) i (by omega)
theorem sumTo_bound {m : Nat → Nat} {c : Nat} : ∀ n, (∀ i, i < n → m i ≤ c) → sumTo m n ≤ c * n
  | 0, _ => Nat.zero_le _
  | k + 1, h => by
    have h1 := sumTo_bound k (fun i hi => h i (by omega))
    have h2 := h k (by omega)
    show sumTo m k + m k ≤ c * (k + 1)
    rw [Nat.mul_succ]; omega

/-- What is found at a place may be raised. -/
structure Up (α : Type) where
  le : α → α → Prop
  rank : α → Nat
  c : Nat
  refl : ∀ a, le a a
  trans : ∀ a b d, le a b → le b d → le a d
  mono : ∀ a b, le a b → rank a ≤ rank b
  anti : ∀ a b, le a b → rank a = rank b → a = b
  top : ∀ a, rank a ≤ c

variable {α : Type}
/-- s may have been raised to t. -/
def Le (U : Up α) (n : Nat) (s t : Nat → α) : Prop := (∀ i, i < n → U.le (s i) (t i)) ∧ ∀ i, n ≤ i → t i = s i
theorem Le.refl (U : Up α) (n : Nat) (s : Nat → α) : Le U n s s := ⟨fun _ _ => U.refl _, fun _ _ => rfl⟩
theorem Le.trans {U : Up α} {n : Nat} {s t u : Nat → α} (h : Le U n s t) (h' : Le U n t u) : Le U n s u :=
  ⟨fun i hi => U.trans _ _ _ (h.1 i hi) (h'.1 i hi), fun i hi => (h'.2 i hi).trans (h.2 i hi)⟩
def mu (U : Up α) (n : Nat) (s : Nat → α) : Nat := sumTo (fun i => U.rank (s i)) n
theorem Le.mu {U : Up α} {n : Nat} {s t : Nat → α} (h : Le U n s t) : mu U n s ≤ mu U n t := sumTo_le n (fun i hi => U.mono _ _ (h.1 i hi))
theorem Le.eq {U : Up α} {n : Nat} {s t : Nat → α} (h : Le U n s t) (hm : Chaos.mu U n t ≤ Chaos.mu U n s) : t = s := by
  funext i
  by_cases hi : i < n
  · exact (U.anti _ _ (h.1 i hi) (sumTo_eq n (fun i hi => U.mono _ _ (h.1 i hi)) hm i hi)).symm
  · exact h.2 i (by omega)
theorem mu_top (U : Up α) (n : Nat) (s : Nat → α) : mu U n s ≤ U.c * n := sumTo_bound n (fun _ _ => U.top _)

/-- One pass: updates one behind the other. -/
def pass (f : Nat → (Nat → α) → (Nat → α)) : List Nat → (Nat → α) → (Nat → α)
  | [], s => s
  | i :: l, s => pass f l (f i s)
def iter (g : (Nat → α) → (Nat → α)) : Nat → (Nat → α) → (Nat → α)
  | 0, s => s
  | m + 1, s => iter g m (g s)
theorem iter_succ (g : (Nat → α) → (Nat → α)) : ∀ m s, iter g (m + 1) s = g (iter g m s)
  | 0, _ => rfl
  | m + 1, s => iter_succ g m (g s)

variable {U : Up α} {n : Nat} {f : Nat → (Nat → α) → (Nat → α)} {I : (Nat → α) → Prop}
theorem pass_inv (hI : ∀ i, i < n → ∀ s, I s → I (f i s)) : ∀ l, (∀ i ∈ l, i < n) → ∀ s, I s → I (pass f l s)
  | [], _, _, h => h
  | i :: l, hl, s, h => pass_inv hI l (fun j hj => hl j (List.mem_cons_of_mem _ hj)) (f i s) (hI i (hl i List.mem_cons_self) s h)
theorem pass_le (hI : ∀ i, i < n → ∀ s, I s → I (f i s)) (hu : ∀ i, i < n → ∀ s, I s → Le U n s (f i s)) : ∀ l, (∀ i ∈ l, i < n) → ∀ s, I s → Le U n s (pass f l s)
  | [], _, _, _ => Le.refl _ _ _
  | i :: l, hl, s, h => (hu i (hl i List.mem_cons_self) s h).trans (pass_le hI hu l (fun j hj => hl j (List.mem_cons_of_mem _ hj)) _ (hI i (hl i List.mem_cons_self) s h))
/-- A pass that raises nothing raises nothing at any place. -/
theorem pass_fix (hI : ∀ i, i < n → ∀ s, I s → I (f i s)) (hu : ∀ i, i < n → ∀ s, I s → Le U n s (f i s)) : ∀ l, (∀ i ∈ l, i < n) → ∀ s, I s → pass f l s = s → ∀ i ∈ l, f i s = s
  | [], _, _, _, _, i, hi => by cases hi
  | j :: l, hl, s, h, he, i, hi => by
    have h1 := hu j (hl j List.mem_cons_self) s h
    have hI1 := hI j (hl j List.mem_cons_self) s h
    have hl' : ∀ i ∈ l, i < n := fun k hk => hl k (List.mem_cons_of_mem _ hk)
    have h2 := pass_le hI hu l hl' _ hI1
    have he' : pass f l (f j s) = s := he
    rw [he'] at h2
    have hj : f j s = s := h1.eq h2.mu
    rcases List.mem_cons.1 hi with rfl | hi
    · exact hj
    · rw [hj] at he'
      exact pass_fix hI hu l hl' s h he' i hi
theorem iter_inv (hI : ∀ i, i < n → ∀ s, I s → I (f i s)) (l : List Nat) (hl : ∀ i ∈ l, i < n) : ∀ m s, I s → I (iter (pass f l) m s)
  | 0, _, h => h
  | m + 1, s, h => iter_inv hI l hl m _ (pass_inv hI l hl s h)
theorem iter_or (hI : ∀ i, i < n → ∀ s, I s → I (f i s)) (hu : ∀ i, i < n → ∀ s, I s → Le U n s (f i s)) (l : List Nat) (hl : ∀ i ∈ l, i < n) (s : Nat → α) (hs : I s) :
    ∀ m, pass f l (iter (pass f l) m s) = iter (pass f l) m s ∨ m ≤ mu U n (iter (pass f l) m s)
  | 0 => .inr (Nat.zero_le _)
  | m + 1 => by
    rw [iter_succ]
    have hi := iter_inv hI l hl m s hs
    rcases iter_or hI hu l hl s hs m with h | h
    · left; rw [h, h]
    · have h1 := pass_le hI hu l hl _ hi
      by_cases e : mu U n (pass f l (iter (pass f l) m s)) ≤ mu U n (iter (pass f l) m s)
      · left; rw [h1.eq e, h1.eq e]
      · right; omega
/-- As many passes as can raise something find all. -/
theorem iter_fix (hI : ∀ i, i < n → ∀ s, I s → I (f i s)) (hu : ∀ i, i < n → ∀ s, I s → Le U n s (f i s)) (l : List Nat) (hl : ∀ i ∈ l, i < n) (s : Nat → α) (hs : I s) (m : Nat) (hm : U.c * n ≤ m) :
    ∀ i ∈ l, f i (iter (pass f l) m s) = iter (pass f l) m s := by
  refine pass_fix hI hu l hl _ (iter_inv hI l hl m s hs) ?_
  rcases iter_or hI hu l hl s hs m with h | h
  · exact h
  · have h1 := pass_le hI hu l hl _ (iter_inv hI l hl m s hs)
    refine h1.eq ?_
    have := mu_top U n (pass f l (iter (pass f l) m s))
    omega
end Chaos
theorem or_map {a b c d : Prop} (h : a ∨ b) (f : a → c) (g : b → d) : c ∨ d := h.elim (fun k => .inl (f k)) (fun k => .inr (g k))
end Go.Proofs.YtoepcplbpochpaaDoor
