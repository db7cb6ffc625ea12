/-
  Plain mathematics: passes over places that only ever raise what is found at a place come to an end.
-/
import Derived.Test.YtoepcplbpochpaaDoorUnit1

namespace Go.Proofs.YtoepcplbpochpaaDoor
namespace Chaos

def sumTo (m : Nat → Nat) : Nat → Nat
  | 0 => 0
  | k + 1 => sumTo m k + m k
theorem sumTo_le {m m' : Nat → Nat} : ∀ n, (∀ i, i < n → m i ≤ m' i) → sumTo m n ≤ sumTo m' n
  | 0, _ => Nat.le_refl _
  | k + 1, h => Nat.add_le_add (sumTo_le k (fun i hi => h i (by omega))) (h k (by omega))
theorem sumTo_eq {m m' : Nat → Nat} : ∀ n, (∀ i, i < n → m i ≤ m' i) → sumTo m' n ≤ sumTo m n → ∀ i, i < n → m i = m' i
  | 0, _, _, i, hi => by omega
  | k + 1, h, he, i, hi => by
    have h1 := sumTo_le k (fun i hi => h i (by omega))
    have h2 := h k (by omega)
    have he' : sumTo m' k + m' k ≤ sumTo m k + m k := he
    by_cases e : i = k
    · subst e; omega
    · exact sumTo_eq k (fun i hi => h i (by omega)) (by omega) i (by omega)
theorem sumTo_bound {m : Nat → Nat} {c : Nat} : ∀ n, (∀ i, i < n → m i ≤ c) → sumTo m n ≤ c * n
  | 0, _ => Nat.zero_le _
  | k + 1, h => by
    have h1 := sumTo_bound k (fun i hi => h i (by omega))
    have h2 := h k (by omega)
    show sumTo m k + m k ≤ c * (k + 1)
    rw [Nat.mul_succ]; omega

/-- What is found at a place may be raised. -/
structure Up (α : Type) where
  le : α → α → Prop
  rank : α → Nat
  c : Nat
  refl : ∀ a, le a a
  trans : ∀ a b d, le a b → le b d → le a d
  mono : ∀ a b, le a b → rank a ≤ rank b
  anti : ∀ a b, le a b → rank a = rank b → a = b
  top : ∀ a, rank a ≤ c

variable {α : Type}
/-- s may have been raised to t. -/
def Le (U : Up α) (n : Nat) (s t : Nat → α) : Prop := (∀ i, i < n → U.le (s i) (t i)) ∧ ∀ i, n ≤ i → t i = s i
theorem Le.refl (U : Up α) (n : Nat) (s : Nat → α) : Le U n s s := ⟨fun _ _ => U.refl _, fun _ _ => rfl⟩
theorem Le.trans {U : Up α} {n : Nat} {s t u : Nat → α} (h : Le U n s t) (h' : Le U n t u) : Le U n s u :=
  ⟨fun i hi => U.trans _ _ _ (h.1 i hi) (h'.1 i hi), fun i hi => (h'.2 i hi).trans (h.2 i hi)⟩
def mu (U : Up α) (n : Nat) (s : Nat → α) : Nat := sumTo (fun i => U.rank (s i)) n
theorem Le.mu {U : Up α} {n : Nat} {s t : Nat → α} (h : Le U n s t) : mu U n s ≤ mu U n t := sumTo_le n (fun i hi => U.mono _ _ (h.1 i hi))
theorem Le.eq {U : Up α} {n : Nat} {s t : Nat → α} (h : Le U n s t) (hm : Chaos.mu U n t ≤ Chaos.mu U n s) : t = s := by
  funext i
  by_cases hi : i < n
  · exact (U.anti _ _ (h.1 i hi) (sumTo_eq n (fun i hi => U.mono _ _ (h.1 i hi)) hm i hi)).symm
  · exact h.2 i (by omega)
theorem mu_top (U : Up α) (n : Nat) (s : Nat → α) : mu U n s ≤ U.c * n := sumTo_bound n (fun _ _ => U.top _)

/-- One pass: updates one behind the other. -/
def pass (f : Nat → (Nat → α) → (Nat → α)) : List Nat → (Nat → α) → (Nat → α)
  | [], s => s
  | i :: l, s => pass f l (f i s)
def iter (g : (Nat → α) → (Nat → α)) : Nat → (Nat → α) → (Nat → α)
  | 0, s => s
  | m + 1, s => iter g m (g s)
theorem iter_succ (g : (Nat → α) → (Nat → α)) : ∀ m s, iter g (m + 1) s = g (iter g m s)
  | 0, _ => rfl
  | m + 1, s => iter_succ g m (g s)

variable {U : Up α} {n : Nat} {f : Nat → (Nat → α) → (Nat → α)} {I : (Nat → α) → Prop}
theorem pass_inv (hI : ∀ i, i < n → ∀ s, I s → I (f i s)) : ∀ l, (∀ i ∈ l, i < n) → ∀ s, I s → I (pass f l s)
  | [], _, _, h => h
  | i :: l, hl, s, h => pass_inv hI l (fun j hj => hl j (List.mem_cons_of_mem _ hj)) (f i s) (hI i (hl i List.mem_cons_self) s h)
theorem pass_le (hI : ∀ i, i < n → ∀ s, I s → I (f i s)) (hu : ∀ i, i < n → ∀ s, I s → Le U n s (f i s)) : ∀ l, (∀ i ∈ l, i < n) → ∀ s, I s → Le U n s (pass f l s)
  | [], _, _, _ => Le.refl _ _ _
  | i :: l, hl, s, h => (hu i (hl i List.mem_cons_self) s h).trans (pass_le hI hu l (fun j hj => hl j (List.mem_cons_of_mem _ hj)) _ (hI i (hl i List.mem_cons_self) s h))
/-- A pass that raises nothing raises nothing at any place. -/
theorem pass_fix (hI : ∀ i, i < n → ∀ s, I s → I (f i s)) (hu : ∀ i, i < n → ∀ s, I s → Le U n s (f i s)) : ∀ l, (∀ i ∈ l, i < n) → ∀ s, I s → pass f l s = s → ∀ i ∈ l, f i s = s
  | [], _, _, _, _, i, hi => by cases hi
  | j :: l, hl, s, h, he, i, hi => by
    have h1 := hu j (hl j List.mem_cons_self) s h
    have hI1 := hI j (hl j List.mem_cons_self) s h
    have hl' : ∀ i ∈ l, i < n := fun k hk => hl k (List.mem_cons_of_mem _ hk)
    have h2 := pass_le hI hu l hl' _ hI1
    have he' : pass f l (f j s) = s := he
    rw [he'] at h2
    have hj : f j s = s := h1.eq h2.mu
    rcases List.mem_cons.1 hi with rfl | hi
    · exact hj
    · rw [hj] at he'
      exact pass_fix hI hu l hl' s h he' i hi
theorem iter_inv (hI : ∀ i, i < n → ∀ s, I s → I (f i s)) (l : List Nat) (hl : ∀ i ∈ l, i < n) : ∀ m s, I s → I (iter (pass f l) m s)
  | 0, _, h => h
  | m + 1, s, h => iter_inv hI l hl m _ (pass_inv hI l hl s h)
theorem iter_or (hI : ∀ i, i < n → ∀ s, I s → I (f i s)) (hu : ∀ i, i < n → ∀ s, I s → Le U n s (f i s)) (l : List Nat) (hl : ∀ i ∈ l, i < n) (s : Nat → α) (hs : I s) :
    ∀ m, pass f l (iter (pass f l) m s) = iter (pass f l) m s ∨ m ≤ mu U n (iter (pass f l) m s)
  | 0 => .inr (Nat.zero_le _)
  | m + 1 => by
    rw [iter_succ]
    have hi := iter_inv hI l hl m s hs
    rcases iter_or hI hu l hl s hs m with h | h
    · left; rw [h, h]
    · have h1 := pass_le hI hu l hl _ hi
      by_cases e : mu U n (pass f l (iter (pass f l) m s)) ≤ mu U n (iter (pass f l) m s)
      · left; rw [h1.eq e, h1.eq e]
      · right; omega
/-- As many passes as can raise something find all. -/
theorem iter_fix (hI : ∀ i, i < n → ∀ s, I s → I (f i s)) (hu : ∀ i, i < n → ∀ s, I s → Le U n s (f i s)) (l : List Nat) (hl : ∀ i ∈ l, i < n) (s : Nat → α) (hs : I s) (m : Nat) (hm : U.c * n ≤ m) :
    ∀ i ∈ l, f i (iter (pass f l) m s) = iter (pass f l) m s := by
  refine pass_fix hI hu l hl _ (iter_inv hI l hl m s hs) ?_
  rcases iter_or hI hu l hl s hs m with h | h
  · exact h
  · have h1 := pass_le hI hu l hl _ (iter_inv hI l hl m s hs)
    refine h1.eq ?_
    have := mu_top U n (pass f l (iter (pass f l) m s))
    omega
end Chaos
theorem or_map {a b c d : Prop} (h : a ∨ b) (f : a → c) (g : b → d) : c ∨ d := h.elim (fun k => .inl (f k)) (fun k => .inr (g k))
end Go.Proofs.YtoepcplbpochpaaDoor

/-
  Plain mathematics of the ways of a program: where a way goes on, what an instruction reads and writes, what is live.
-/
namespace Go.Proofs.YtoepcplbpochpaaDoor
open Go.RowKit

/-- Where a way goes on: two places, one or none (-1). -/
def nx1 (x : In4) (i : Nat) : Int := if x.op = 7 then x.a else if x.op = 8 then x.b else if x.op = 10 then -1 else (i : Int) + 1
def nx2 (x : In4) (i : Nat) : Int := if x.op = 8 then (i : Int) + 1 else -1
def isRk (o : Int) : Bool := decide (2 ≤ o) && decide (o ≤ 6)
def isWr (o : Int) : Bool := o == 0 || o == 1 || isRk o
def rdB (x : In4) (r : Int) : Bool := if x.op = 1 ∨ x.op = 8 ∨ x.op = 9 ∨ x.op = 10 then x.a == r else isRk x.op && (x.a == r || x.b == r)
def wrB (x : In4) (r : Int) : Bool := isWr x.op && x.d == r
/-- j may come behind i. -/
def Nx (L : List In4) (i j : Nat) : Prop := (j : Int) = nx1 (inAt L i) i ∨ (j : Int) = nx2 (inAt L i) i
/-- No way leads out of the code. -/
def Inside (L : List In4) : Prop := ∀ i, i < L.length → (nx1 (inAt L i) i = -1 ∨ (0 ≤ nx1 (inAt L i) i ∧ nx1 (inAt L i) i < L.length)) ∧ (nx2 (inAt L i) i = -1 ∨ (0 ≤ nx2 (inAt L i) i ∧ nx2 (inAt L i) i < L.length))
theorem Nx.lt {L : List In4} (hL : Inside L) {i j : Nat} (hi : i < L.length) (h : Nx L i j) : j < L.length := by
  have := hL i hi
  rcases h with h | h <;> omega

/-- Is it live at an instruction that may come next? -/
def laterB (x : In4) (i : Nat) (g : Nat → Bool) : Bool := (nx1 x i != -1 && g (nx1 x i).toNat) || (nx2 x i != -1 && g (nx2 x i).toNat)
theorem later_iff {L : List In4} (hL : Inside L) {i : Nat} (hi : i < L.length) (g : Nat → Bool) : laterB (inAt L i) i g = true ↔ ∃ j, Nx L i j ∧ g j = true := by
  obtain ⟨h1, h2⟩ := hL i hi
  unfold laterB Nx
  generalize nx1 (inAt L i) i = a at h1 ⊢
  generalize nx2 (inAt L i) i = b at h2 ⊢
  rw [Bool.or_eq_true, Bool.and_eq_true, Bool.and_eq_true, bne_iff_ne, bne_iff_ne]
  constructor
  · rintro (⟨k, h⟩ | ⟨k, h⟩)
    · exact ⟨a.toNat, .inl (by omega), h⟩
    · exact ⟨b.toNat, .inr (by omega), h⟩
  · rintro ⟨j, h | h, k⟩
    · left; subst h; exact ⟨by omega, k⟩
    · right; subst h; exact ⟨by omega, k⟩

/-- What one update makes of what is known of one register. -/
def upR (L : List In4) (r : Int) (i : Nat) (g : Nat → Bool) : Nat → Bool := fun j => if j = i then rdB (inAt L i) r || (laterB (inAt L i) i g && !wrB (inAt L i) r) else g j
/-- From the place k - 1 down to 0. -/
def dnR (L : List In4) (r : Int) : Nat → (Nat → Bool) → (Nat → Bool)
  | 0, g => g
  | k + 1, g => dnR L r k (upR L r k g)
def downTo : Nat → List Nat
  | 0 => []
  | k + 1 => k :: downTo k
theorem mem_downTo {k i : Nat} : i ∈ downTo k ↔ i < k := by
  induction k with
  | zero => simp [downTo]
  | succ k ih => unfold downTo; rw [List.mem_cons, ih]; omega
theorem dnR_pass (L : List In4) (r : Int) : ∀ k g, dnR L r k g = Chaos.pass (upR L r) (downTo k) g
  | 0, _ => rfl
  | k + 1, _ => dnR_pass L r k _
def liveR (L : List In4) (r : Int) : Nat → Nat → Bool := fun m => Chaos.iter (dnR L r L.length) m (fun _ => false)
/-- Is the register r live at the place i? -/
def liveB (L : List In4) (i r : Nat) : Bool := liveR L r L.length i

def boolUp : Chaos.Up Bool := ⟨fun a b => a = true → b = true, fun a => if a then 1 else 0, 1, fun _ h => h, fun _ _ _ h h' k => h' (h k),
  fun a b h => by cases a <;> cases b <;> simp_all, fun a b h k => by cases a <;> cases b <;> simp_all, fun a => by cases a <;> simp⟩

/-- Nothing is known that an update would not find. -/
def Grows (L : List In4) (r : Int) (g : Nat → Bool) : Prop := ∀ i, i < L.length → g i = true → upR L r i g i = true
theorem later_mono {x : In4} {i : Nat} {g g' : Nat → Bool} (h : ∀ j, g j = true → g' j = true) (hl : laterB x i g = true) : laterB x i g' = true := by
  unfold laterB at *
  rw [Bool.or_eq_true, Bool.and_eq_true, Bool.and_eq_true] at *
  exact or_map hl (fun k => ⟨k.1, h _ k.2⟩) (fun k => ⟨k.1, h _ k.2⟩)
theorem upR_ge {L : List In4} {r : Int} {g : Nat → Bool} (hg : Grows L r g) {i : Nat} (hi : i < L.length) : ∀ j, g j = true → upR L r i g j = true := fun j hj => by
  by_cases e : j = i
  · subst e; exact hg j hi hj
  · unfold upR; rw [if_neg e]; exact hj
theorem grows_upR {L : List In4} {r : Int} {g : Nat → Bool} (hg : Grows L r g) {i : Nat} (hi : i < L.length) : Grows L r (upR L r i g) := fun j hj h => by
  have hge := upR_ge hg hi
  have key : upR L r j g j = true → upR L r j (upR L r i g) j = true := fun h => by
    unfold upR at h ⊢
    rw [if_pos rfl] at h ⊢
    rw [Bool.or_eq_true, Bool.and_eq_true] at h ⊢
    exact or_map h id (fun k => ⟨later_mono hge k.1, k.2⟩)
  by_cases e : j = i
  · subst e; exact key h
  · refine key (hg j hj ?_)
    unfold upR at h; rw [if_neg e] at h; exact h
theorem upR_le {L : List In4} {r : Int} {g : Nat → Bool} (hg : Grows L r g) {i : Nat} (hi : i < L.length) : Chaos.Le boolUp L.length g (upR L r i g) :=
  ⟨fun j _ => upR_ge hg hi j, fun j hj => by unfold upR; rw [if_neg (by omega)]⟩
theorem liveR_pass (L : List In4) (r : Int) (m : Nat) : liveR L r m = Chaos.iter (Chaos.pass (upR L r) (downTo L.length)) m (fun _ => false) := by
  unfold liveR; rw [show dnR L r L.length = Chaos.pass (upR L r) (downTo L.length) from funext (dnR_pass L r _)]
/-- What is found is what an update would find. -/
theorem live_fix (L : List In4) (r i : Nat) (hi : i < L.length) : liveB L i r = (rdB (inAt L i) r || (laterB (inAt L i) i (fun j => liveB L j r) && !wrB (inAt L i) r)) := by
  have h := Chaos.iter_fix (U := boolUp) (n := L.length) (f := upR L r) (I := Grows L r) (fun i hi s hs => grows_upR hs hi) (fun i hi s hs => upR_le hs hi) (downTo L.length) (fun i hi => mem_downTo.1 hi) (fun _ => false) (fun i _ h => by cases h) L.length (by show 1 * _ ≤ _; omega) i (mem_downTo.2 hi)
  rw [← liveR_pass] at h
  have h' := congrFun h i
  unfold upR at h'
  rw [if_pos rfl] at h'
  exact h'.symm

/-- There is a way of at most m instructions to one that reads the register, and none ahead of it writes it. -/
def liveW (L : List In4) (r : Int) : Nat → Nat → Prop
  | 0, _ => False
  | m + 1, i => i < L.length ∧ (rdB (inAt L i) r = true ∨ (wrB (inAt L i) r = false ∧ ∃ j, Nx L i j ∧ liveW L r m j))
def LiveP (L : List In4) (r : Int) (i : Nat) : Prop := ∃ m, liveW L r m i
theorem LiveP.here {L : List In4} {r : Int} {i : Nat} (hi : i < L.length) (h : rdB (inAt L i) r = true) : LiveP L r i := ⟨1, hi, .inl h⟩
theorem LiveP.on {L : List In4} {r : Int} {i j : Nat} (hi : i < L.length) (h : wrB (inAt L i) r = false) (hn : Nx L i j) (hj : LiveP L r j) : LiveP L r i := by
  obtain ⟨m, hm⟩ := hj
  exact ⟨m + 1, hi, .inr ⟨h, j, hn, hm⟩⟩
theorem LiveP.cases {L : List In4} {r : Int} {i : Nat} (h : LiveP L r i) : i < L.length ∧ (rdB (inAt L i) r = true ∨ (wrB (inAt L i) r = false ∧ ∃ j, Nx L i j ∧ LiveP L r j)) := by
  obtain ⟨m, hm⟩ := h
  cases m with
  | zero => cases hm
  | succ m => exact ⟨hm.1, or_map hm.2 id (fun ⟨a, j, b, c⟩ => ⟨a, j, b, m, c⟩)⟩
theorem liveW_found {L : List In4} (hL : Inside L) {r : Nat} : ∀ m i, liveW L r m i → liveB L i r = true
  | 0, _, h => by cases h
  | m + 1, i, h => by
    obtain ⟨hi, h⟩ := h
    rw [live_fix L r i hi, Bool.or_eq_true, Bool.and_eq_true]
    refine or_map h id ?_
    rintro ⟨hw, j, hn, hj⟩
    exact ⟨(later_iff hL hi _).2 ⟨j, hn, liveW_found hL m j hj⟩, by rw [hw]; rfl⟩
theorem upR_sound {L : List In4} (hL : Inside L) {r : Int} {i : Nat} (hi : i < L.length) {g : Nat → Bool} (hg : ∀ j, g j = true → LiveP L r j) : ∀ j, upR L r i g j = true → LiveP L r j := fun j h => by
  unfold upR at h
  by_cases e : j = i
  · subst e
    rw [if_pos rfl, Bool.or_eq_true, Bool.and_eq_true] at h
    rcases h with h | ⟨h, hw⟩
    · exact .here hi h
    · obtain ⟨k, hn, hk⟩ := (later_iff hL hi g).1 h
      refine .on hi ?_ hn (hg k hk)
      cases hq : wrB (inAt L j) r
      · rfl
      · rw [hq] at hw; cases hw
  · rw [if_neg e] at h; exact hg j h
theorem live_sound {L : List In4} (hL : Inside L) {r i : Nat} (h : liveB L i r = true) : LiveP L r i := by
  have : ∀ j, liveR L r L.length j = true → LiveP L r j := by
    rw [liveR_pass]
    exact Chaos.iter_inv (n := L.length) (f := upR L r) (I := fun g => ∀ j, g j = true → LiveP L r j) (fun i hi s hs => upR_sound hL hi hs) (downTo L.length) (fun i hi => mem_downTo.1 hi) L.length _ (fun j h => by cases h)
  exact this i h
theorem live_iff {L : List In4} (hL : Inside L) {r i : Nat} : liveB L i r = true ↔ LiveP L r i := ⟨live_sound hL, fun ⟨m, h⟩ => liveW_found hL m i h⟩
theorem live_lt {L : List In4} (hL : Inside L) {r i : Nat} (h : liveB L i r = true) : i < L.length := ((live_iff hL).1 h).cases.1
/-- What an instruction reads is live there. -/
theorem live_reads {L : List In4} (hL : Inside L) {r i : Nat} (hi : i < L.length) (h : rdB (inAt L i) r = true) : liveB L i r = true := (live_iff hL).2 (.here hi h)
/-- What is live behind an instruction is written by it or live ahead of it. -/
theorem live_back {L : List In4} (hL : Inside L) {r i j : Nat} (hi : i < L.length) (hn : Nx L i j) (h : liveB L j r = true) (hw : wrB (inAt L i) r = false) : liveB L i r = true :=
  (live_iff hL).2 (.on hi hw hn ((live_iff hL).1 h))
end Go.Proofs.YtoepcplbpochpaaDoor
