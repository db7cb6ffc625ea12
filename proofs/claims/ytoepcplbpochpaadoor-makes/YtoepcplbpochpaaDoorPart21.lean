/-
  Plain mathematics: a table that grows by one place at a time: it is a table, and what it tells.
-/
import Derived.Test.YtoepcplbpochpaaDoorPart17
import Derived.Test.YtoepcplbpochpaaDoorPart20
import Derived.Test.YtoepcplbpochpaaDoorPart19
import Derived.Test.YtoepcplbpochpaaDoorPart5
import Derived.Laws.CopyOwn
import Derived.Test.YtoepcplbpochpaaDoorPart2
import Derived.Deep.RegionHeld3
import Derived.Handy
import Derived.Test.YtoepcplbpochpaaDoorPart7

namespace Go.Proofs.YtoepcplbpochpaaDoor
open Go.RowKit

theorem rg_left {A : List Rg} {x : Rg} {i : Nat} (h : i < A.length) : rg (A ++ [x]) i = rg A i := by
  unfold rg; rw [List.getD_eq_getElem?_getD, List.getD_eq_getElem?_getD, List.getElem?_append_left h]
theorem rg_last (A : List Rg) (x : Rg) : rg (A ++ [x]) A.length = x := by
  unfold rg; rw [List.getD_eq_getElem?_getD, List.getElem?_append_right (Nat.le_refl _)]; simp
theorem tab_cut {A : List Rg} {x : Rg} : tabTo (A ++ [x]) A.length = tabTo A A.length := by
  unfold tabTo
  rw [Bool.eq_iff_iff, List.all_eq_true, List.all_eq_true]
  refine forall_congr' (fun i => forall_congr' (fun hi => ?_))
  rw [List.mem_range] at hi
  rw [rg_left hi]
  by_cases h0 : i = 0
  · simp [h0]
  · rw [rg_left (show i - 1 < A.length by omega)]
/-- Does x stand rightly behind A? -/
def behindT (A : List Rg) (x : Rg) : Prop := A.length = 0 ∨ follows (rg A (A.length - 1)) x = true
theorem tab_snoc {A : List Rg} {x : Rg} : tabTo (A ++ [x]) (A ++ [x]).length = true ↔ tabTo A A.length = true ∧ isRg x = true ∧ behindT A x := by
  rw [List.length_append, show ([x] : List Rg).length = 1 from rfl, tabTo_succ, tab_cut, rg_last, Bool.and_eq_true, Bool.and_eq_true, Bool.or_eq_true, decide_eq_true_iff]
  unfold behindT
  by_cases h0 : A.length = 0
  · simp [h0]
  · rw [rg_left (show A.length - 1 < A.length by omega)]
theorem set_last (A : List Rg) (l x : Rg) : (A ++ [l]).set ((A ++ [l]).length - 1) x = A ++ [x] := by
  rw [List.length_append, show A.length + [l].length - 1 = A.length by simp, List.set_append_right _ _ (Nat.le_refl _)]; simp
theorem addR_nil (g : Rg) : addR [] g = [g] := rfl
theorem addR_snoc (A : List Rg) (l g : Rg) : addR (A ++ [l]) g = if goesB l g = true then A ++ [⟨l.v, l.f, g.t, l.k, l.a⟩] else A ++ [l] ++ [g] := by
  have e : rg (A ++ [l]) ((A ++ [l]).length - 1) = l := by rw [List.length_append, show A.length + [l].length - 1 = A.length by simp]; exact rg_last A l
  unfold addR
  rw [e]
  by_cases h : goesB l g = true
  · rw [if_pos ⟨by simp, h⟩, if_pos h, set_last]
  · rw [if_neg (fun k => h k.2), if_neg h]
theorem snoc_cases (R : List Rg) : R = [] ∨ ∃ A l, R = A ++ [l] := by
  rcases Nat.eq_zero_or_pos R.length with h | h
  · exact .inl (List.length_eq_zero_iff.1 h)
  · exact .inr ⟨R.dropLast, R.getLast (fun e => by rw [e] at h; simp at h), (List.dropLast_concat_getLast _).symm⟩
/-- A table whose last range ends ahead of the place p of the variable v. -/
def GoodT (R : List Rg) (v p : Int) : Prop := tabTo R R.length = true ∧ ∀ A l, R = A ++ [l] → l.v < v ∨ (l.v = v ∧ l.t ≤ p)
theorem goodT_nil (v p : Int) : GoodT [] v p := ⟨rfl, fun A l e => by have := congrArg List.length e; simp at this⟩
theorem GoodT.on {R : List Rg} {v p q : Int} (h : GoodT R v p) (hq : p ≤ q) : GoodT R v q := ⟨h.1, fun A l e => by have := h.2 A l e; omega⟩
theorem GoodT.next {R : List Rg} {v p q : Int} (h : GoodT R v p) : GoodT R (v + 1) q := ⟨h.1, fun A l e => by have := h.2 A l e; omega⟩
theorem isRg_iff (r : Rg) : isRg r = true ↔ (0 ≤ r.v ∧ r.v < 4 ∧ 0 ≤ r.f ∧ r.f < r.t ∧ r.t ≤ 164 ∧ 0 ≤ r.k ∧ r.k ≤ 2 ∧ 0 ≤ r.a ∧ r.a ≤ 65535) := by unfold isRg; rw [decide_eq_true_iff]
theorem snoc_inj {A B : List Rg} {x y : Rg} (h : A ++ [x] = B ++ [y]) : A = B ∧ x = y := by
  have := List.append_inj' h rfl
  exact ⟨this.1, by simpa using this.2⟩
theorem goes_iff (a b : Rg) : goesB a b = true ↔ a.v = b.v ∧ a.t = b.f ∧ a.k = b.k ∧ a.a = b.a := by
  unfold goesB
  rw [Bool.and_eq_true, Bool.and_eq_true, Bool.and_eq_true, beq_iff_eq, beq_iff_eq, beq_iff_eq, beq_iff_eq]
  exact ⟨fun ⟨⟨⟨a, b⟩, c⟩, d⟩ => ⟨a, b, c, d⟩, fun ⟨a, b, c, d⟩ => ⟨⟨⟨a, b⟩, c⟩, d⟩⟩
theorem add_good {R : List Rg} {g : Rg} {p : Int} (h : GoodT R g.v p) (hg : isRg g = true) (hf : g.f = p) (ht : g.t = p + 1) : GoodT (addR R g) g.v (p + 1) := by
  rcases snoc_cases R with rfl | ⟨A, l, rfl⟩
  · rw [addR_nil]
    refine ⟨(tab_snoc (A := []) (x := g)).2 ⟨rfl, hg, .inl rfl⟩, fun A l e => ?_⟩
    obtain ⟨_, rfl⟩ := snoc_inj (A := []) e
    omega
  · obtain ⟨h1, h2⟩ := h
    have hl := h2 A l rfl
    obtain ⟨t1, t2, t3⟩ := tab_snoc.1 h1
    rw [addR_snoc]
    by_cases e : goesB l g = true
    · rw [if_pos e]
      obtain ⟨e1, e2, e3, e4⟩ := (goes_iff l g).1 e
      have hlr := (isRg_iff l).1 t2
      have hgr := (isRg_iff g).1 hg
      refine ⟨tab_snoc.2 ⟨t1, (isRg_iff _).2 ?_, ?_⟩, fun B m e => ?_⟩
      · simp only; omega
      · rcases t3 with t3 | t3
        · exact .inl t3
        · right
          unfold follows at t3 ⊢
          exact t3
      · obtain ⟨_, rfl⟩ := snoc_inj e
        simp only; omega
    · rw [if_neg e]
      refine ⟨tab_snoc.2 ⟨h1, hg, .inr ?_⟩, fun B m e => ?_⟩
      · have el : rg (A ++ [l]) ((A ++ [l]).length - 1) = l := by rw [List.length_append, show A.length + [l].length - 1 = A.length by simp]; exact rg_last A l
        rw [el]
        have e' : ¬ (l.v = g.v ∧ l.t = g.f ∧ l.k = g.k ∧ l.a = g.a) := fun k => e ((goes_iff l g).2 k)
        unfold follows
        by_cases hv : l.v ≠ g.v
        · rw [if_pos hv, decide_eq_true_iff]; omega
        · rw [if_neg hv]
          by_cases htt : l.t ≠ g.f
          · rw [if_pos htt, decide_eq_true_iff]; omega
          · rw [if_neg htt, decide_eq_true_iff]
            have hv' : l.v = g.v := Classical.not_not.1 hv
            have ht' : l.t = g.f := Classical.not_not.1 htt
            by_cases hk : l.k = g.k
            · right; intro ha; exact e' ⟨hv', ht', hk, ha⟩
            · exact .inl hk
      · obtain ⟨_, rfl⟩ := snoc_inj e
        omega
/-- A table tells of the variable x at the place q: the kind k, the place a. -/
def Tells (R : List Rg) (x q k a : Int) : Prop := ∃ r ∈ R, r.v = x ∧ r.f ≤ q ∧ q < r.t ∧ r.k = k ∧ r.a = a
theorem add_tells {R : List Rg} {g : Rg} {p : Int} (h : GoodT R g.v p) (hf : g.f = p) (ht : g.t = p + 1) (x q k a : Int) : Tells (addR R g) x q k a ↔ Tells R x q k a ∨ (x = g.v ∧ q = p ∧ k = g.k ∧ a = g.a) := by
  have hone : (∃ r ∈ [g], r.v = x ∧ r.f ≤ q ∧ q < r.t ∧ r.k = k ∧ r.a = a) ↔ (x = g.v ∧ q = p ∧ k = g.k ∧ a = g.a) := by
    constructor
    · rintro ⟨r, hr, h1, h2, h3, h4, h5⟩
      rw [List.mem_singleton] at hr; subst hr
      omega
    · rintro ⟨h1, h2, h3, h4⟩
      exact ⟨g, List.mem_singleton.2 rfl, by omega⟩
  have happ : ∀ A B : List Rg, Tells (A ++ B) x q k a ↔ Tells A x q k a ∨ Tells B x q k a := fun A B => by
    unfold Tells
    constructor
    · rintro ⟨r, hr, h⟩
      rw [List.mem_append] at hr
      exact hr.elim (fun hr => .inl ⟨r, hr, h⟩) (fun hr => .inr ⟨r, hr, h⟩)
    · rintro (⟨r, hr, h⟩ | ⟨r, hr, h⟩)
      · exact ⟨r, List.mem_append.2 (.inl hr), h⟩
      · exact ⟨r, List.mem_append.2 (.inr hr), h⟩
  rcases snoc_cases R with rfl | ⟨A, l, rfl⟩
  · rw [addR_nil]
    refine hone.trans ⟨.inr, fun h => h.resolve_left ?_⟩
    rintro ⟨r, hr, _⟩; cases hr
  · rw [addR_snoc]
    by_cases e : goesB l g = true
    · rw [if_pos e, happ, happ]
      obtain ⟨e1, e2, e3, e4⟩ := (goes_iff l g).1 e
      have hlt : l.f < l.t := isRg_lt (tab_snoc.1 h.1).2.1
      have hlast : Tells [⟨l.v, l.f, g.t, l.k, l.a⟩] x q k a ↔ Tells [l] x q k a ∨ (x = g.v ∧ q = p ∧ k = g.k ∧ a = g.a) := by
        unfold Tells
        constructor
        · rintro ⟨r, hr, h1, h2, h3, h4, h5⟩
          rw [List.mem_singleton] at hr; subst hr
          simp only at h1 h2 h3 h4 h5
          by_cases hq : q < l.t
          · exact .inl ⟨l, List.mem_singleton.2 rfl, h1, h2, hq, h4, h5⟩
          · right; omega
        · rintro (⟨r, hr, h1, h2, h3, h4, h5⟩ | ⟨h1, h2, h3, h4⟩)
          · rw [List.mem_singleton] at hr; subst hr
            exact ⟨_, List.mem_singleton.2 rfl, h1, h2, by show q < g.t; omega, h4, h5⟩
          · exact ⟨_, List.mem_singleton.2 rfl, by show l.v = x; omega, by show l.f ≤ q; omega, by show q < g.t; omega, by show l.k = k; omega, by show l.a = a; omega⟩
      rw [hlast]
      exact ⟨fun h => h.elim (fun h => .inl (.inl h)) (fun h => h.elim (fun h => .inl (.inr h)) .inr), fun h => h.elim (fun h => h.elim .inl (fun h => .inr (.inl h))) (fun h => .inr (.inr h))⟩
    · rw [if_neg e, happ]
      exact ⟨fun h => h.elim .inl (fun h => .inr (hone.1 h)), fun h => h.elim .inl (fun h => .inr (hone.2 h))⟩

/-- What is told of a place of the program. -/
def TellsAt (hs : Nat → Bool) (ha : Nat → Nat) (st : Nat → Nat) (L : List In4) (v i : Nat) (x q k a : Int) : Prop :=
  (inAt L i).op = 11 ∧ canB (factB L i v) (liveB L i) = true ∧ x = v ∧ q = st i ∧ k = placeK (factB L i v) hs ∧ a = placeA (factB L i v) ha
/-- Where what comes of the instructions begins: a Stop comes to one. -/
structure Pos (L : List In4) (st Q : Nat → Nat) : Prop where
  st : ∀ i, i < L.length → st i = Q i
  up : ∀ i, i < L.length → Q i ≤ Q (i + 1)
  stop : ∀ i, i < L.length → (inAt L i).op = 11 → Q (i + 1) = Q i + 1
theorem Pos.mono {L : List In4} {st Q : Nat → Nat} (h : Pos L st Q) (i : Nat) : ∀ d, i + d ≤ L.length → Q i ≤ Q (i + d)
  | 0, _ => Nat.le_refl _
  | d + 1, hd => Nat.le_trans (h.mono i d (by omega)) (h.up (i + d) (by omega))
theorem rngI_good {hs : Nat → Bool} {ha : Nat → Nat} {st Q : Nat → Nat} {L : List In4} {v : Nat} {R : List Rg} (hp : Pos L st Q) (hR : GoodT R v (Q 0)) (hv : v < 4) (hQ : Q L.length ≤ 164)
    (hpl : ∀ i, i < L.length → canB (factB L i v) (liveB L i) = true → 0 ≤ placeA (factB L i v) ha ∧ placeA (factB L i v) ha ≤ 65535) :
    ∀ k, k ≤ L.length → GoodT (rngI hs ha st L v R k) v (Q k) ∧ ∀ x q kk a, Tells (rngI hs ha st L v R k) x q kk a ↔ Tells R x q kk a ∨ ∃ i, i < k ∧ TellsAt hs ha st L v i x q kk a
  | 0, _ => ⟨hR, fun x q kk a => ⟨.inl, fun h => h.elim id (fun ⟨i, hi, _⟩ => by omega)⟩⟩
  | k + 1, hk => by
    obtain ⟨ih1, ih2⟩ := rngI_good hp hR hv hQ hpl k (by omega)
    have hup := hp.up k (by omega)
    show GoodT (rngS hs ha st L v k _) v (Q (k + 1)) ∧ ∀ x q kk a, Tells (rngS hs ha st L v k _) x q kk a ↔ _
    unfold rngS
    by_cases h : (inAt L k).op = 11 ∧ canB (factB L k v) (liveB L k) = true
    · rw [if_pos h]
      have hq := hp.stop k (by omega) h.1
      have hs' := hp.st k (by omega)
      have hle := hp.mono (k + 1) (L.length - (k + 1)) (by omega)
      rw [show k + 1 + (L.length - (k + 1)) = L.length by omega] at hle
      obtain ⟨a0, a1⟩ := hpl k (by omega) h.2
      have hk3 : 0 ≤ placeK (factB L k v) hs ∧ placeK (factB L k v) hs ≤ 2 := by
        unfold placeK
        split
        · exact ⟨by decide, by decide⟩
        split
        · exact ⟨by decide, by decide⟩
        · exact ⟨by decide, by decide⟩
      have hg : isRg ⟨v, st k, (st k : Int) + 1, placeK (factB L k v) hs, placeA (factB L k v) ha⟩ = true := (isRg_iff _).2 (by simp only; omega)
      have ih1' : GoodT (rngI hs ha st L v R k) (Rg.v ⟨v, st k, (st k : Int) + 1, placeK (factB L k v) hs, placeA (factB L k v) ha⟩) (Q k) := ih1
      refine ⟨?_, fun x q kk a => ?_⟩
      · have := add_good ih1' hg (by show (st k : Int) = Q k; omega) (by show (st k : Int) + 1 = Q k + 1; omega)
        exact GoodT.on this (by omega)
      · rw [add_tells ih1' (by show (st k : Int) = Q k; omega) (by show (st k : Int) + 1 = Q k + 1; omega), ih2]
        constructor
        · rintro ((h1 | ⟨i, hi, h1⟩) | ⟨h1, h2, h3, h4⟩)
          · exact .inl h1
          · exact .inr ⟨i, by omega, h1⟩
          · exact .inr ⟨k, by omega, h.1, h.2, h1, by omega, h3, h4⟩
        · rintro (h1 | ⟨i, hi, h1⟩)
          · exact .inl (.inl h1)
          · by_cases e : i = k
            · subst e; obtain ⟨_, _, g1, g2, g3, g4⟩ := h1; exact .inr ⟨g1, by omega, g3, g4⟩
            · exact .inl (.inr ⟨i, by omega, h1⟩)
    · rw [if_neg h]
      refine ⟨ih1.on (by omega), fun x q kk a => ?_⟩
      rw [ih2]
      constructor
      · rintro (h1 | ⟨i, hi, h1⟩)
        · exact .inl h1
        · exact .inr ⟨i, by omega, h1⟩
      · rintro (h1 | ⟨i, hi, h1⟩)
        · exact .inl h1
        · by_cases e : i = k
          · subst e; exact absurd ⟨h1.1, h1.2.1⟩ h
          · exact .inr ⟨i, by omega, h1⟩
theorem rngV_good {hs : Nat → Bool} {ha : Nat → Nat} {st Q : Nat → Nat} {L : List In4} (hp : Pos L st Q) (hQ : Q L.length ≤ 164)
    (hpl : ∀ v i, v < 4 → i < L.length → canB (factB L i v) (liveB L i) = true → 0 ≤ placeA (factB L i v) ha ∧ placeA (factB L i v) ha ≤ 65535) :
    ∀ v, v ≤ 4 → GoodT (rngV hs ha st L v) v (Q 0) ∧ ∀ x q kk a, Tells (rngV hs ha st L v) x q kk a ↔ ∃ u i, u < v ∧ i < L.length ∧ TellsAt hs ha st L u i x q kk a
  | 0, _ => ⟨goodT_nil _ _, fun x q kk a => ⟨fun ⟨r, hr, _⟩ => (by cases hr), fun ⟨u, i, hu, _⟩ => (by omega)⟩⟩
  | v + 1, hv => by
    obtain ⟨ih1, ih2⟩ := rngV_good hp hQ hpl v (by omega)
    obtain ⟨h1, h2⟩ := rngI_good (hs := hs) (ha := ha) hp ih1 (by omega) hQ (fun i hi => hpl v i (by omega) hi) L.length (Nat.le_refl _)
    refine ⟨?_, fun x q kk a => ?_⟩
    · have := h1.next (q := (Q 0 : Int))
      rw [show ((v : Int) + 1) = ((v + 1 : Nat) : Int) by omega] at this
      exact this
    · show Tells (rngI hs ha st L v (rngV hs ha st L v) L.length) x q kk a ↔ _
      rw [h2, ih2]
      constructor
      · rintro (⟨u, i, hu, hi, h⟩ | ⟨i, hi, h⟩)
        · exact ⟨u, i, by omega, hi, h⟩
        · exact ⟨v, i, by omega, hi, h⟩
      · rintro ⟨u, i, hu, hi, h⟩
        by_cases e : u = v
        · subst e; exact .inr ⟨i, hi, h⟩
        · exact .inl ⟨u, i, by omega, hi, h⟩
end Go.Proofs.YtoepcplbpochpaaDoor

/-
  Plain mathematics: the unit that Compile makes is right, and what its table tells.
-/
namespace Go.Proofs.YtoepcplbpochpaaDoor
open Go.RowKit

/-- A variable is tied to constants that may be. -/
theorem fact_const {P R V : Int} {L : List In4} (hp : RightP P R V L) (i v : Nat) : (factB L i v).k = 2 → 0 ≤ (factB L i v).a ∧ (factB L i v).a ≤ 65535 := by
  unfold factB
  rw [factM_pass]
  refine Chaos.iter_inv (n := L.length) (f := sprF L v) (I := fun h => ∀ j, (h j).k = 2 → 0 ≤ (h j).a ∧ (h j).a ≤ 65535) (fun k hk g hg => ?_) (List.range L.length) (fun i hi => List.mem_range.1 hi) _ startF (fun j h => ?_) i
  · have hx := hp.ins k hk
    have hb : ∀ f : Ft, (f.k = 2 → 0 ≤ f.a ∧ f.a ≤ 65535) → (behF (inAt L k) v f).k = 2 → 0 ≤ (behF (inAt L k) v f).a ∧ (behF (inAt L k) v f).a ≤ 65535 := fun f hf => by
      unfold behF
      split
      · exact hf
      split
      · intro h; cases h
      split
      · split
        · intro h; cases h
        · split
          · rename_i h13
            intro _
            exact hx.2.2.2.2.2.1 (.inr h13)
          · intro h; cases h
      · exact hf
    have hm : ∀ f g : Ft, (f.k = 2 → 0 ≤ f.a ∧ f.a ≤ 65535) → (g.k = 2 → 0 ≤ g.a ∧ g.a ≤ 65535) → (metF f g).k = 2 → 0 ≤ (metF f g).a ∧ (metF f g).a ≤ 65535 := fun f g hf hg => by
      unfold metF
      split
      · exact hg
      split
      · exact hf
      · intro h; cases h
    have step : ∀ (p : Int) (f : Ft) (h : Nat → Ft), (f.k = 2 → 0 ≤ f.a ∧ f.a ≤ 65535) → (∀ j, (h j).k = 2 → 0 ≤ (h j).a ∧ (h j).a ≤ 65535) → ∀ j, (bring p f h j).k = 2 → 0 ≤ (bring p f h j).a ∧ (bring p f h j).a ≤ 65535 := fun p f h hf hh j => by
      unfold bring
      split
      · exact hh j
      · show (if j = p.toNat then metF (h j) f else h j).k = 2 → 0 ≤ (if j = p.toNat then metF (h j) f else h j).a ∧ (if j = p.toNat then metF (h j) f else h j).a ≤ 65535
        split
        · exact hm _ _ (hh j) hf
        · exact hh j
    exact step _ _ _ (hb _ (hg k)) (step _ _ _ (hb _ (hg k)) hg)
  · unfold startF at h
    split at h <;> cases h

/-- The places in the unit's code. -/
def cmpS (P R K : Nat) (L : List In4) : Nat → Nat := stF (homS L R K) (homA L R K) K (liveB L 0) P L L.length
def cmpQ (P R K : Nat) (L : List In4) : Nat → Nat := fun i => (wTo (homS L R K) (homA L R K) K (liveB L 0) P L i).length
theorem cmp_pos (P R K : Nat) (L : List In4) : Pos L (cmpS P R K L) (cmpQ P R K L) := by
  refine ⟨fun i hi => ?_, fun i hi => ?_, fun i hi h => ?_⟩
  · unfold cmpS cmpQ stF; rw [if_pos hi]
  · exact wTo_mono (homS L R K) (homA L R K) K (liveB L 0) P L i 1
  · unfold cmpQ
    show (wTo (homS L R K) (homA L R K) K (liveB L 0) P L i ++ insC (homS L R K) (homA L R K) K (inAt L i)).length = _
    rw [List.length_append]
    have : insC (homS L R K) (homA L R K) K (inAt L i) = [⟨(inAt L i).op, 0, (inAt L i).a, 0⟩] := by
      unfold insC; rw [if_neg (by omega), if_neg (by omega), if_neg (by omega), if_neg (by omega), if_neg (by omega), if_pos (.inr h)]
    rw [this]; rfl
theorem cmpC_len {P R K : Nat} {L : List In4} : (cmpC P R K L).length = cmpQ P R K L L.length := by unfold cmpC codeB cmpQ; rw [List.length_map]

theorem can_place {P R V K : Nat} {L : List In4} (hp : RightP P R V L) (v i : Nat) (hc : canB (factB L i v) (liveB L i) = true) :
    ((factB L i v).k = 2 ∧ placeK (factB L i v) (homS L R K) = 2 ∧ placeA (factB L i v) (homA L R K) = (factB L i v).a ∧ 0 ≤ (factB L i v).a ∧ (factB L i v).a ≤ 65535) ∨
    (∃ r : Nat, (factB L i v).k = 3 ∧ (factB L i v).a = r ∧ r < R ∧ liveB L i r = true ∧ placeK (factB L i v) (homS L R K) = (if homS L R K r = true then 1 else 0) ∧ placeA (factB L i v) (homA L R K) = homA L R K r) := by
  have h3 := fact_reg hp i v
  have h2 := fact_const hp i v
  generalize factB L i v = f at *
  unfold canB at hc
  rw [Bool.or_eq_true, Bool.and_eq_true, beq_iff_eq, beq_iff_eq] at hc
  by_cases e : f.k = 2
  · left; unfold placeK placeA; rw [if_pos e, if_pos e]; exact ⟨e, rfl, rfl, h2 e⟩
  · right
    obtain ⟨hk, hl⟩ := hc.resolve_left e
    obtain ⟨a0, a1⟩ := h3 hk
    refine ⟨f.a.toNat, hk, by omega, by omega, hl, ?_, ?_⟩
    · unfold placeK; rw [if_neg e]
    · unfold placeA; rw [if_neg e]
theorem cmp_table {P R V K : Nat} {L : List In4} (hp : RightP P R V L) (hK : 2 ≤ K) (hK' : K ≤ 16) :
    isTab (cmpR P R V K L) = true ∧ (∀ x q kk a, Tells (cmpR P R V K L) x q kk a ↔ ∃ u i, u < V ∧ i < L.length ∧ TellsAt (homS L R K) (homA L R K) (cmpS P R K L) L u i x q kk a) := by
  have hPR : P ≤ R := by have := hp.pr; omega
  have hV : V ≤ 4 := by have := hp.v4; omega
  have hok := hom_ok L P R K hK hPR
  have hsl := slots_bound L P R K hPR
  have hq : cmpQ P R K L L.length ≤ 164 := by
    have := wTo_len (homS L R K) (homA L R K) K (liveB L 0) P L L.length
    have := hp.p4; have := hp.n40
    unfold cmpQ; omega
  have hR12 := hp.r12
  have hpl : ∀ v i, v < 4 → i < L.length → canB (factB L i v) (liveB L i) = true → 0 ≤ placeA (factB L i v) (homA L R K) ∧ placeA (factB L i v) (homA L R K) ≤ 65535 := fun v i _ _ hc => by
    rcases can_place (K := K) hp v i hc with ⟨_, _, h3, h4, h5⟩ | ⟨r, _, _, hr, _, _, h6⟩
    · rw [h3]; exact ⟨h4, h5⟩
    · rw [h6]
      cases e : homS L R K r with
      | true => have := hok.slot r hr e; omega
      | false => have := hok.reg r hr e; omega
  obtain ⟨h1, h2⟩ := rngV_good (hs := homS L R K) (ha := homA L R K) (cmp_pos P R K L) hq hpl V hV
  refine ⟨?_, h2⟩
  unfold isTab
  rw [Bool.and_eq_true, decide_eq_true_iff]
  refine ⟨?_, h1.1⟩
  have := rngV_len (homS L R K) (homA L R K) (cmpS P R K L) L V
  have h3 : V * L.length ≤ 4 * 40 := Nat.mul_le_mul hV hp.n40
  exact Nat.le_trans this (by omega)
theorem rg_mem {R : List Rg} {i : Nat} (h : i < R.length) : rg R i ∈ R := by
  unfold rg; rw [List.getD_eq_getElem?_getD, List.getElem?_eq_getElem h]; exact List.getElem_mem h
theorem cmp_in {P R V K : Nat} {L : List In4} (hp : RightP P R V L) (hK : 2 ≤ K) (hK' : K ≤ 16) : TabIn K (slotsB L P R K) V (cmpC P R K L).length (cmpR P R V K L) := fun j hj => by
  obtain ⟨h1, h2⟩ := cmp_table hp hK hK'
  have hPR : P ≤ R := by have := hp.pr; omega
  have hok := hom_ok L P R K hK hPR
  have hrg := (isRg_iff _).1 (isTab_rg h1 hj)
  obtain ⟨u, i, hu, hi, g1, g2, g3, g4, g5, g6⟩ := (h2 (rg (cmpR P R V K L) j).v ((rg (cmpR P R V K L) j).t - 1) (rg (cmpR P R V K L) j).k (rg (cmpR P R V K L) j).a).1 ⟨rg (cmpR P R V K L) j, rg_mem hj, rfl, by omega, by omega, rfl, rfl⟩
  have hs := (cmp_pos P R K L).st i hi
  have hst := (cmp_pos P R K L).stop i hi g1
  have hle := (cmp_pos P R K L).mono (i + 1) (L.length - (i + 1)) (by omega)
  rw [show i + 1 + (L.length - (i + 1)) = L.length by omega] at hle
  refine ⟨by omega, by rw [cmpC_len]; omega, fun hk => ?_, fun hk => ?_⟩
  · rcases can_place (K := K) hp u i g2 with ⟨_, h3, _⟩ | ⟨r, _, _, hr, _, h5, h6⟩
    · omega
    · rw [g6, h6]
      cases e : homS L R K r with
      | true => rw [e, if_pos rfl] at h5; omega
      | false => have := hok.reg r hr e; omega
  · rcases can_place (K := K) hp u i g2 with ⟨_, h3, _⟩ | ⟨r, _, _, hr, _, h5, h6⟩
    · omega
    · rw [g6, h6]
      cases e : homS L R K r with
      | true => have := hok.slot r hr e; omega
      | false => rw [e, if_neg (by decide)] at h5; omega
/-- The unit is right. -/
theorem unit_ok {P R V K : Nat} {L : List In4} (hp : RightP P R V L) (hK : 2 ≤ K) (hK' : K ≤ 16) : unitE K (slotsB L P R K) P V (cmpC P R K L) (encT (cmpR P R V K L)) = (0, 0) ∧ TabS (encT (cmpR P R V K L)) (cmpR P R V K L) := by
  have hPR : P ≤ R := by have := hp.pr; omega
  have hsl := slots_bound L P R K hPR
  obtain ⟨_, _, c1, c2⟩ := code_right hp hK (C := cmpC P R K L) rfl
  have ht := cmp_table hp hK hK'
  have hT : TabS (encT (cmpR P R V K L)) (cmpR P R V K L) := by
    refine ⟨ht.1, ?_⟩
    have e : encT (cmpR P R V K L) = wrS (flat (cmpR P R V K L)) := by
      unfold encT; rw [if_pos ht.1, encAll]
    rw [e, wrS_data]
  have hn40 := hp.n40
  have hp4 := hp.p4
  have hr12 := hp.r12
  have hv0 := hp.v0
  have hv4 := hp.v4
  refine ⟨?_, hT⟩
  rw [unitE_good (by unfold UnitBad; omega), show codedE false (cmpC P R K L) K 0 (slotsB L P R K) = (0, 0) from code_coded hp hK, if_neg (fun h => h rfl), tabB_yes ⟨_, hT, cmp_in hp hK hK'⟩, if_pos rfl]
end Go.Proofs.YtoepcplbpochpaaDoor

/-
  The built-in copy between two slices whose elements take several cells each; the making of a slice and the filling of it.
-/
namespace Go.Proofs.YtoepcplbpochpaaDoor
open Go.RowKit

theorem run_copy_rows {P : Program} (w : World) (dT sT ty elem : TypeId) (g o dLen dCap : Nat) (a : Addr) (sLen sCap k : Nat) (cur : Array Value) (t : TypeId) (cs : List Value)
    (hu : P.underlying dT = some (.slice elem)) (hs : (P.info? elem).map (·.size) = some k)
    (hg : w.heap[g]? = some (.cells cur t (0, 0))) (hn : cs.length = Nat.min sLen dLen * k)
    (hsrc : ∀ j v, cs[j]? = some v → w.cell? (a.add j) = some v) (hfit : o + cs.length ≤ cur.size) (h1 : ∀ v ∈ cs, v.oneCell' = true) :
    (Builtin.copy_ #[dT, sT] ty #[.slice (some ⟨g, o, none⟩) dLen dCap, .slice (some a) sLen sCap]).run P w =
      .ok (goInt (Nat.min sLen dLen)) (w.setRow g (cur.toList.take o ++ cs ++ cur.toList.drop (o + cs.length)).toArray) := by
  have hl := run_loadCells_list (P := P) w a cs hsrc
  have hst := run_storeCells_at P g o t cs 0 cur w hg (by simpa using hfit) h1
  cases hq : P.info? elem with
  | none => simp [hq] at hs
  | some i =>
    have hi : i.size = k := by simpa [hq] using hs
    simp [Builtin.copy_, run_underlying hu, Builtin.lenOf, Builtin.firstCells, sizeOf, typeInfo, hq, hi, ← hn, hl, hst]

theorem run_copy_empty {P : Program} (w : World) (dT sT ty elem : TypeId) (d a : Option Addr) (dLen dCap sCap k : Nat) (hu : P.underlying dT = some (.slice elem)) (hs : (P.info? elem).map (·.size) = some k) :
    (Builtin.copy_ #[dT, sT] ty #[.slice d dLen dCap, .slice a 0 sCap]).run P w = .ok (goInt 0) w := by
  cases hq : P.info? elem with
  | none => simp [hq] at hs
  | some i =>
    have hl : ∀ (x : Addr), (loadCells x 0).run P w = .ok #[] w := fun x => by simpa using run_loadCells_list (P := P) w x [] (by simp)
    cases d <;> cases a <;> simp [Builtin.copy_, run_underlying hu, Builtin.lenOf, Builtin.firstCells, sizeOf, typeInfo, hq, storeCells, hl]

/-- copy over the head of a row that the call itself made; the source nil, empty, or as long as cs says: the world behind it, by what is known of it. -/
theorem copy_rows {P : Program} {w : World} (dT sT elem : TypeId) (k : Nat) (hu : P.underlying dT = some (.slice elem)) (hsz : (P.info? elem).map (·.size) = some k)
    (sp : Option Addr) (g dLen dCap sLen sCap : Nat) (hle : sLen ≤ dLen)
    (cur : Array Value) (t : TypeId) (hg : w.heap[g]? = some (.cells cur t (0, 0))) (cs : List Value) (hn : cs.length = sLen * k)
    (hpos : 0 < sLen → ∃ ad, sp = some ad ∧ ∀ j v, cs[j]? = some v → w.cell? (ad.add j) = some v)
    (hfit : cs.length ≤ cur.size) (h1 : ∀ v ∈ cs, v.oneCell' = true) (B : Nat) (w0 : World) (hb : Below B w0 w) (hBg : B ≤ g) :
    ∃ w', (∀ ty, (Builtin.copy_ #[dT, sT] ty #[.slice (some ⟨g, 0, none⟩) dLen dCap, .slice sp sLen sCap]).run P w = .ok (goInt sLen) w') ∧
      w'.heap[g]? = some (.cells (cs ++ cur.toList.drop cs.length).toArray t (0, 0)) ∧ Below B w0 w' := by
  by_cases h0 : sLen = 0
  · subst h0
    obtain rfl : cs = [] := List.eq_nil_of_length_eq_zero (by omega)
    exact ⟨w, fun ty => run_copy_empty (P := P) w dT sT ty elem (some ⟨g, 0, none⟩) sp dLen dCap sCap k hu hsz, by simpa using hg, hb⟩
  · obtain ⟨ad, rfl, hsrc⟩ := hpos (by omega)
    have hmin : Nat.min sLen dLen = sLen := Nat.min_eq_left hle
    refine ⟨w.setRow g (cur.toList.take 0 ++ cs ++ cur.toList.drop (0 + cs.length)).toArray, fun ty => ?_, ?_, below_setRow hb hBg _⟩
    · have hrun := run_copy_rows (P := P) w dT sT ty elem g 0 dLen dCap ad sLen sCap k cur t cs hu hsz hg (by rw [hmin]; exact hn) hsrc (by simpa using hfit) h1
      rw [hmin] at hrun
      exact hrun
    · have := setRow_heap w g cur (cur.toList.take 0 ++ cs ++ cur.toList.drop (0 + cs.length)).toArray t _ hg
      simpa using this

theorem keep_setRow (w : World) (g : Nat) (cs : Array Value) : Keep (fun k => k = g) w (w.setRow g cs) :=
  ⟨rfl, rfl, rfl, by simp [World.setRow], fun k _ hn => setRow_other w g k _ hn⟩
/-- The same, every other block as it was. -/
theorem copy_keep {P : Program} {w : World} (dT sT elem : TypeId) (k : Nat) (hu : P.underlying dT = some (.slice elem)) (hsz : (P.info? elem).map (·.size) = some k)
    (sp : Option Addr) (g dLen dCap sLen sCap : Nat) (hle : sLen ≤ dLen)
    (cur : Array Value) (t : TypeId) (hg : w.heap[g]? = some (.cells cur t (0, 0))) (cs : List Value) (hn : cs.length = sLen * k)
    (hpos : 0 < sLen → ∃ ad, sp = some ad ∧ ∀ j v, cs[j]? = some v → w.cell? (ad.add j) = some v)
    (hfit : cs.length ≤ cur.size) (h1 : ∀ v ∈ cs, v.oneCell' = true) :
    ∃ w', (∀ ty, (Builtin.copy_ #[dT, sT] ty #[.slice (some ⟨g, 0, none⟩) dLen dCap, .slice sp sLen sCap]).run P w = .ok (goInt sLen) w') ∧
      w'.heap[g]? = some (.cells (cs ++ cur.toList.drop cs.length).toArray t (0, 0)) ∧ Keep (fun k => k = g) w w' := by
  by_cases h0 : sLen = 0
  · subst h0
    obtain rfl : cs = [] := List.eq_nil_of_length_eq_zero (by omega)
    exact ⟨w, fun ty => run_copy_empty (P := P) w dT sT ty elem (some ⟨g, 0, none⟩) sp dLen dCap sCap k hu hsz, by simpa using hg, Keep.refl _ _⟩
  · obtain ⟨ad, rfl, hsrc⟩ := hpos (by omega)
    have hmin : Nat.min sLen dLen = sLen := Nat.min_eq_left hle
    refine ⟨w.setRow g (cur.toList.take 0 ++ cs ++ cur.toList.drop (0 + cs.length)).toArray, fun ty => ?_, ?_, keep_setRow _ _ _⟩
    · have hrun := run_copy_rows (P := P) w dT sT ty elem g 0 dLen dCap ad sLen sCap k cur t cs hu hsz hg (by rw [hmin]; exact hn) hsrc (by simpa using hfit) h1
      rw [hmin] at hrun
      exact hrun
    · have := setRow_heap w g cur (cur.toList.take 0 ++ cs ++ cur.toList.drop (0 + cs.length)).toArray t _ hg
      simpa using this
end Go.Proofs.YtoepcplbpochpaaDoor

/-
  The document's own run: what an instruction makes of a moment: (*lodgeref.Moment).pass.
-/
namespace Go.Proofs.YtoepcplbpochpaaDoor
open Go.RowKit

def endI (s : St) : Int := if s.on then -1 else s.kind
/-- A moment in memory: its block, the registers' and the variables'. -/
structure MomB (w : World) (M G H R V : Nat) (s : St) : Prop where
  at_ : w.cell? ⟨M, 0, none⟩ = some (.int .i64 (s.at_ : Int))
  rg : w.cell? ⟨M, 1, none⟩ = some (.slice (some ⟨G, 0, none⟩) R R)
  vr : w.cell? ⟨M, s.env.vc, none⟩ = some (.slice (some ⟨H, 0, none⟩) V V)
  en : w.cell? ⟨M, 4, none⟩ = some (.int .i64 (endI s))
  vl : w.cell? ⟨M, 5, none⟩ = some (.int .i64 s.val)
  regs : ∀ i, i < R → w.cell? ⟨G, i, none⟩ = some (.int .i64 (s.regs i))
  vars : ∀ i, i < V → w.cell? ⟨H, i, none⟩ = some (.int .i64 (s.vars i))
  fm : ∀ o, w.frozen? ⟨M, o, none⟩ = false
  fg : ∀ o, w.frozen? ⟨G, o, none⟩ = false
  fh : ∀ o, w.frozen? ⟨H, o, none⟩ = false
  ig : G < w.heap.size
  ih : H < w.heap.size
  mg : M ≠ G
  mh : M ≠ H
  gh : G ≠ H
  hc : s.env.vc = 2 ∨ s.env.vc = 3
theorem MomB.im {w : World} {M G H R V : Nat} {s : St} (h : MomB w M G H R V s) : M < w.heap.size := World.block_lt_of_cell? w ⟨M, 0, none⟩ h.at_
theorem MomB.of_block {w w' : World} {M G H R V : Nat} {s : St} (h : MomB w M G H R V s) (hm : w'.heap[M]? = w.heap[M]?) (hg : w'.heap[G]? = w.heap[G]?) (hh : w'.heap[H]? = w.heap[H]?) (hz : w.heap.size ≤ w'.heap.size) : MomB w' M G H R V s :=
  ⟨(World.cell?_of_block hm).trans h.at_, (World.cell?_of_block hm).trans h.rg, (World.cell?_of_block hm).trans h.vr, (World.cell?_of_block hm).trans h.en, (World.cell?_of_block hm).trans h.vl,
   fun i hi => (World.cell?_of_block hg).trans (h.regs i hi), fun i hi => (World.cell?_of_block hh).trans (h.vars i hi),
   fun o => (World.frozen?_of_block hm).trans (h.fm o), fun o => (World.frozen?_of_block hg).trans (h.fg o), fun o => (World.frozen?_of_block hh).trans (h.fh o), Nat.lt_of_lt_of_le h.ig hz, Nat.lt_of_lt_of_le h.ih hz, h.mg, h.mh, h.gh, h.hc⟩
theorem MomB.drew {w : World} {M G H R V : Nat} {s : St} (h : MomB w M G H R V s) : MomB w.drew M G H R V s := h.of_block rfl rfl rfl (Nat.le_refl _)
theorem MomB.keep {S : Nat → Prop} {w w' : World} {M G H R V : Nat} {s : St} (h : MomB w M G H R V s) (hk : Keep S w w') (hm : ¬ S M) (hg : ¬ S G) (hh : ¬ S H) : MomB w' M G H R V s :=
  h.of_block (hk.block M h.im hm) (hk.block G h.ig hg) (hk.block H h.ih hh) hk.size
theorem MomB.same {w : World} {M G H R V : Nat} {s s' : St} (h : MomB w M G H R V s) (h1 : s'.at_ = s.at_) (h2 : s'.regs = s.regs) (h3 : s'.vars = s.vars) (h4 : endI s' = endI s) (h5 : s'.val = s.val) (h6 : s'.env = s.env := by rfl) : MomB w M G H R V s' :=
  ⟨by rw [h1]; exact h.at_, h.rg, by rw [h6]; exact h.vr, by rw [h4]; exact h.en, by rw [h5]; exact h.vl, by rw [h2]; exact h.regs, by rw [h3]; exact h.vars, h.fm, h.fg, h.fh, h.ig, h.ih, h.mg, h.mh, h.gh, by rw [h6]; exact h.hc⟩

theorem cell_far {w : World} {A B i o : Nat} {v u : Value} (h : w.cell? ⟨A, o, none⟩ = some u) (hne : A ≠ B) : (w.setCell ⟨B, i, none⟩ v).cell? ⟨A, o, none⟩ = some u := by
  rw [World.cell?_setCell_other _ _ _ _ (fun e => hne (by injection e with e1; exact e1.symm))]; exact h
theorem frozen_far {w : World} {A B i : Nat} {v : Value} (h : ∀ o, w.frozen? ⟨A, o, none⟩ = false) : ∀ o, (w.setCell ⟨B, i, none⟩ v).frozen? ⟨A, o, none⟩ = false := fun o => by
  rw [World.frozen?_setCell]; exact h o

theorem MomB.set_reg {w : World} {M G H R V : Nat} {s : St} (h : MomB w M G H R V s) (d : Nat) (hd : d < R) (v : Int) : MomB (w.setCell ⟨G, d, none⟩ (.int .i64 v)) M G H R V (s.reg d v) := by
  refine ⟨cell_far h.at_ h.mg, cell_far h.rg h.mg, cell_far h.vr h.mg, cell_far h.en h.mg, cell_far h.vl h.mg, fun i hi => ?_, fun i hi => cell_far (h.vars i hi) h.gh.symm, frozen_far h.fm, frozen_far h.fg, frozen_far h.fh, by simp; exact h.ig, by simp; exact h.ih, h.mg, h.mh, h.gh, h.hc⟩
  by_cases hid : i = d
  · subst hid; rw [cell_put (h.regs i hi)]; show _ = some (Value.int .i64 (upd s.regs i v i)); rw [upd_same]
  · rw [cell_set (h.regs i hi) hid]; show _ = some (Value.int .i64 (upd s.regs d v i)); rw [upd_other _ _ hid]
theorem MomB.set_var {w : World} {M G H R V : Nat} {s : St} (h : MomB w M G H R V s) (d : Nat) (hd : d < V) (v : Int) : MomB (w.setCell ⟨H, d, none⟩ (.int .i64 v)) M G H R V (s.var d v) := by
  refine ⟨cell_far h.at_ h.mh, cell_far h.rg h.mh, cell_far h.vr h.mh, cell_far h.en h.mh, cell_far h.vl h.mh, fun i hi => cell_far (h.regs i hi) h.gh, fun i hi => ?_, frozen_far h.fm, frozen_far h.fg, frozen_far h.fh, by simp; exact h.ig, by simp; exact h.ih, h.mg, h.mh, h.gh, h.hc⟩
  by_cases hid : i = d
  · subst hid; rw [cell_put (h.vars i hi)]; show _ = some (Value.int .i64 (upd s.vars i v i)); rw [upd_same]
  · rw [cell_set (h.vars i hi) hid]; show _ = some (Value.int .i64 (upd s.vars d v i)); rw [upd_other _ _ hid]
theorem MomB.set_at {w : World} {M G H R V : Nat} {s : St} (h : MomB w M G H R V s) (p : Nat) {z : Int} (hz : z = (p : Int)) : MomB (w.setCell ⟨M, 0, none⟩ (.int .i64 z)) M G H R V (s.goto p) := by
  rw [hz]
  exact ⟨cell_put h.at_, cell_set h.rg (by omega), cell_set h.vr (show s.env.vc ≠ 0 by have := h.hc; omega), cell_set h.en (by omega), cell_set h.vl (by omega), fun i hi => cell_far (h.regs i hi) h.mg.symm, fun i hi => cell_far (h.vars i hi) h.mh.symm, frozen_far h.fm, frozen_far h.fg, frozen_far h.fh, by simp; exact h.ig, by simp; exact h.ih, h.mg, h.mh, h.gh, h.hc⟩
theorem MomB.set_end {w : World} {M G H R V : Nat} {s : St} (h : MomB w M G H R V s) (k : Int) : MomB (w.setCell ⟨M, 4, none⟩ (.int .i64 k)) M G H R V (s.ended k s.val) :=
  ⟨cell_set h.at_ (by omega), cell_set h.rg (by omega), cell_set h.vr (show s.env.vc ≠ 4 by have := h.hc; omega), cell_put h.en, cell_set h.vl (by omega), fun i hi => cell_far (h.regs i hi) h.mg.symm, fun i hi => cell_far (h.vars i hi) h.mh.symm, frozen_far h.fm, frozen_far h.fg, frozen_far h.fh, by simp; exact h.ig, by simp; exact h.ih, h.mg, h.mh, h.gh, h.hc⟩
theorem MomB.set_val {w : World} {M G H R V : Nat} {s : St} (h : MomB w M G H R V s) (v : Int) : MomB (w.setCell ⟨M, 5, none⟩ (.int .i64 v)) M G H R V { s with val := v } :=
  ⟨cell_set h.at_ (by omega), cell_set h.rg (by omega), cell_set h.vr (show s.env.vc ≠ 5 by have := h.hc; omega), cell_set h.en (by omega), cell_put h.vl, fun i hi => cell_far (h.regs i hi) h.mg.symm, fun i hi => cell_far (h.vars i hi) h.mh.symm, frozen_far h.fm, frozen_far h.fg, frozen_far h.fh, by simp; exact h.ig, by simp; exact h.ih, h.mg, h.mh, h.gh, h.hc⟩

/-- The three blocks of a moment. -/
def Mine (M G H : Nat) : Nat → Prop := fun k => k = M ∨ k = G ∨ k = H
theorem keep_m {M G H : Nat} {a w : World} (h : Keep (Mine M G H) a w) (o : Nat) (u : Value) : Keep (Mine M G H) a (w.setCell ⟨M, o, none⟩ u) := Keep.setCell (S := Mine M G H) h (p := ⟨M, o, none⟩) (.inl rfl) u
theorem keep_g {M G H : Nat} {a w : World} (h : Keep (Mine M G H) a w) (o : Nat) (u : Value) : Keep (Mine M G H) a (w.setCell ⟨G, o, none⟩ u) := Keep.setCell (S := Mine M G H) h (p := ⟨G, o, none⟩) (.inr (.inl rfl)) u
theorem keep_h {M G H : Nat} {a w : World} (h : Keep (Mine M G H) a w) (o : Nat) (u : Value) : Keep (Mine M G H) a (w.setCell ⟨H, o, none⟩ u) := Keep.setCell (S := Mine M G H) h (p := ⟨H, o, none⟩) (.inr (.inr rfl)) u

/-- What a step leaves of a moment. -/
def PassPost (w : World) (M G H R V : Nat) (s' : St) (e : Ending) (w' : World) : Prop :=
  e = .returned (.tuple #[]) ∧ MomB w' M G H R V s' ∧ Keep (Mine M G H) w w'
theorem PassPost.drew {w w' : World} {M G H R V : Nat} {s : St} {e : Ending} (h : PassPost w M G H R V s e w') : PassPost w M G H R V s e w'.drew := ⟨h.1, h.2.1.drew, h.2.2.drew⟩

/-- The world in which the instruction's own work begins. -/
def passW (w : World) (M : Nat) (s : St) (op d a b : Int) : World :=
  (w.setCell ⟨M, 0, none⟩ (.int .i64 ((s.at_ : Int) + 1))).alloc (.cells #[.int .i64 op, .int .i64 d, .int .i64 a, .int .i64 b] 77)
theorem pass_open {w : World} {M G H R V : Nat} {s : St} (op d a b : Int) (h : MomB w M G H R V s) :
    ∃ w2, w2 = passW w M s op d a b ∧ Hid (MomB w2 M G H R V s.next) ∧ Hid (Keep (Mine M G H) w w2) ∧
      w2.cell? ⟨w.heap.size, 0, none⟩ = some (.int .i64 op) ∧ w2.cell? ⟨w.heap.size, 1, none⟩ = some (.int .i64 d) ∧ w2.cell? ⟨w.heap.size, 2, none⟩ = some (.int .i64 a) ∧ w2.cell? ⟨w.heap.size, 3, none⟩ = some (.int .i64 b) := by
  have hk : Keep (Mine M G H) w (passW w M s op d a b) := (keep_m (Keep.refl _ _) _ _).alloc _
  have hsz : (w.setCell ⟨M, 0, none⟩ (.int .i64 ((s.at_ : Int) + 1))).heap.size = w.heap.size := by simp
  have h1 := h.set_at (s.at_ + 1) (z := (s.at_ : Int) + 1) (by omega)
  have h2 : MomB (passW w M s op d a b) M G H R V (s.goto (s.at_ + 1)) := h1.of_block (Below.heap_alloc _ _ _ (by rw [hsz]; exact h.im)) (Below.heap_alloc _ _ _ (by rw [hsz]; exact h.ig)) (Below.heap_alloc _ _ _ (by rw [hsz]; exact h.ih)) (by unfold passW; simp)
  have q : ∀ i, (passW w M s op d a b).cell? ⟨w.heap.size, i, none⟩ = #[Value.int .i64 op, .int .i64 d, .int .i64 a, .int .i64 b][i]? := fun i => World.cell?_alloc_at (hn := hsz.symm) ..
  exact ⟨_, rfl, h2.same rfl rfl rfl rfl rfl, hk, (q 0).trans rfl, (q 1).trans rfl, (q 2).trans rfl, (q 3).trans rfl⟩
end Go.Proofs.YtoepcplbpochpaaDoor

/-
  The document's own run in memory: the moment, the result so far, and the lists that the run owns.
-/
namespace Go.Proofs.YtoepcplbpochpaaDoor
open Go.RowKit

/-- The document's run: its moment (of the state s), its result's block Q, the outputs, what was seen, the places. -/
structure RunInv (w : World) (M G H R V Q : Nat) (s : St) (outs : List Int) (stops : List Sn) (k : Nat) (vo vs vp : Value) (m : Nat) : Prop where
  mom : MomB w M G H R V s
  r0 : w.cell? ⟨Q, 0, none⟩ = some (.int .i64 2)
  r1 : w.cell? ⟨Q, 1, none⟩ = some (.int .i64 0)
  r2 : w.cell? ⟨Q, 2, none⟩ = some (.int .i64 (k : Int))
  r3 : w.cell? ⟨Q, 3, none⟩ = some vo
  r4 : w.cell? ⟨Q, 4, none⟩ = some vs
  rf : ∀ o, w.frozen? ⟨Q, o, none⟩ = false
  oo : w.ownsRow (Q + 1) 3 1 vo outs.length (intCells outs)
  os : w.ownsRow (Q + 1) 63 5 vs stops.length (snCells stops)
  pl : ∃ np xs, w.ownsRow (Q + 1) 3 1 vp np xs ∧ np ≤ m
  ap : ∀ g, vo.ownBlock = some g → vp.ownBlock ≠ some g
  lm : M < Q
  lg : G < Q
  lh : H < Q
section
variable {w w' w2 wz w3 : World} {M G H R V Q : Nat} {s s' : St} {outs : List Int} {stops : List Sn} {k m : Nat} {vo vs vp : Value}
theorem RunInv.iq (h : RunInv w M G H R V Q s outs stops k vo vs vp m) : Q < w.heap.size := World.block_lt_of_cell? w ⟨Q, 0, none⟩ h.r0
theorem RunInv.no (h : RunInv w M G H R V Q s outs stops k vo vs vp m) : ∀ g, vo.ownBlock = some g → Q + 1 ≤ g ∧ g < w.heap.size := own_in h.oo
theorem RunInv.ns (h : RunInv w M G H R V Q s outs stops k vo vs vp m) : ∀ g, vs.ownBlock = some g → Q + 1 ≤ g ∧ g < w.heap.size := own_in h.os
theorem RunInv.np (h : RunInv w M G H R V Q s outs stops k vo vs vp m) : ∀ g, vp.ownBlock = some g → Q + 1 ≤ g ∧ g < w.heap.size := h.pl.elim (fun _ h => h.elim (fun _ h => own_in h.1))

/-- Where the moment, the result and the three lists lie in blocks that are kept. -/
theorem RunInv.keep {S : Nat → Prop} (h : RunInv w M G H R V Q s outs stops k vo vs vp m) (hk : Keep S w w') (hQ : ∀ i, i ≤ Q → ¬ S i) (ho : ∀ g, vo.ownBlock = some g → ¬ S g) (hs : ∀ g, vs.ownBlock = some g → ¬ S g) (hp : ∀ g, vp.ownBlock = some g → ¬ S g) :
    RunInv w' M G H R V Q s outs stops k vo vs vp m := by
  have hb := hk.block Q h.iq (hQ Q (Nat.le_refl _))
  obtain ⟨np, xs, hp1, hp2⟩ := h.pl
  exact ⟨h.mom.keep hk (hQ M (Nat.le_of_lt h.lm)) (hQ G (Nat.le_of_lt h.lg)) (hQ H (Nat.le_of_lt h.lh)), (World.cell?_of_block hb).trans h.r0, (World.cell?_of_block hb).trans h.r1, (World.cell?_of_block hb).trans h.r2, (World.cell?_of_block hb).trans h.r3, (World.cell?_of_block hb).trans h.r4, fun o => (World.frozen?_of_block hb).trans (h.rf o), own_keep h.oo hk ho, own_keep h.os hk hs, ⟨np, xs, own_keep hp1 hk hp, hp2⟩, h.ap, h.lm, h.lg, h.lh⟩
theorem RunInv.grow (h : RunInv w M G H R V Q s outs stops k vo vs vp m) (hk : Keep (fun _ => False) w w') : RunInv w' M G H R V Q s outs stops k vo vs vp m :=
  h.keep hk (fun _ _ h => h) (fun _ _ h => h) (fun _ _ h => h) (fun _ _ h => h)
/-- A cell of the result is written. -/
theorem keep_q (w : World) (Q o : Nat) (u : Value) : Keep (fun i => i = Q) w (w.setCell ⟨Q, o, none⟩ u) := Keep.setCell (S := fun i => i = Q) (Keep.refl _ _) (p := ⟨Q, o, none⟩) rfl u

/-- An output joins. -/
theorem RunInv.out {y : Int} {g cap : Nat} {B : Nat} (h : RunInv w2 M G H R V Q s outs stops k vo vs vp m) (hz : Keep (fun _ => False) w2 wz) (hg : wz.grownBy w3 vo.ownBlock) (hB : w2.heap.size ≤ B)
    (hown : w3.ownsRow (Q + 1) 3 1 (.slice (some ⟨g, 0, none⟩) (outs.length + 1) cap) (outs.length + 1) (intCells outs ++ [.int .i64 y])) (hat : vo.ownBlock = some g ∨ g = B) :
    RunInv (w3.setCell ⟨Q, 3, none⟩ (.slice (some ⟨g, 0, none⟩) (outs.length + 1) cap)) M G H R V Q s (outs ++ [y]) stops k (.slice (some ⟨g, 0, none⟩) (outs.length + 1) cap) vs vp m := by
  have hk3 : Keep (fun i => some i = vo.ownBlock) w2 w3 := (hz.mono (fun _ _ h => h.elim)).grown hg (fun i e _ => e.symm)
  have hq : ∀ i, i ≤ Q → ¬ some i = vo.ownBlock := fun i hi e => by have := (h.no i e.symm).1; omega
  have hkq := keep_q w3 Q 3 (.slice (some ⟨g, 0, none⟩) (outs.length + 1) cap)
  have hb := hk3.block Q h.iq (hq Q (Nat.le_refl _))
  have c : ∀ {o : Nat} {u : Value}, w2.cell? ⟨Q, o, none⟩ = some u → w3.cell? ⟨Q, o, none⟩ = some u := fun hc => (World.cell?_of_block hb).trans hc
  obtain ⟨np, xs, hp1, hp2⟩ := h.pl
  have hs3 := own_keep h.os hk3 (fun g hg e => own_apart h.os h.oo (by decide) g hg e.symm)
  have hp3 := own_keep hp1 hk3 (fun g hg e => h.ap g e.symm hg)
  have hm3 := h.mom.keep hk3 (hq M (Nat.le_of_lt h.lm)) (hq G (Nat.le_of_lt h.lg)) (hq H (Nat.le_of_lt h.lh))
  have far : ∀ i, Q + 1 ≤ i → ¬ i = Q := fun i hi e => by omega
  refine ⟨hm3.keep hkq (by have := h.lm; omega) (by have := h.lg; omega) (by have := h.lh; omega), cell_set (c h.r0) (by omega), cell_set (c h.r1) (by omega), cell_set (c h.r2) (by omega), cell_put (c h.r3), cell_set (c h.r4) (by omega), frozen_set (fun o => (World.frozen?_of_block hb).trans (h.rf o)), ?_, own_keep hs3 hkq (fun g hg => far g (own_in hs3 g hg).1), ⟨np, xs, own_keep hp3 hkq (fun g hg => far g (own_in hp3 g hg).1), hp2⟩, ?_, h.lm, h.lg, h.lh⟩
  · rw [List.length_append, intCells_snoc]
    exact own_keep hown hkq (fun g hg => far g (own_in hown g hg).1)
  · intro i hi e
    have hig : i = g := by injection hi with hi; exact hi.symm
    subst hig
    rcases hat with hat | hat
    · exact h.ap i hat e
    · have := (h.np i e).2; omega
/-- What is seen joins. -/
theorem RunInv.see {x : Sn} {g cap : Nat} (h : RunInv w2 M G H R V Q s outs stops k vo vs vp m) (hz : Keep (fun _ => False) w2 wz) (hg : wz.grownBy w3 vs.ownBlock)
    (hown : w3.ownsRow (Q + 1) 63 5 (.slice (some ⟨g, 0, none⟩) (stops.length + 1) cap) (stops.length + 1) (snCells stops ++ x.cells)) :
    RunInv (w3.setCell ⟨Q, 4, none⟩ (.slice (some ⟨g, 0, none⟩) (stops.length + 1) cap)) M G H R V Q s outs (stops ++ [x]) k vo (.slice (some ⟨g, 0, none⟩) (stops.length + 1) cap) vp m := by
  obtain ⟨np, xs, hp1, hp2⟩ := h.pl
  have hk3 : Keep (fun i => some i = vs.ownBlock) w2 w3 := (hz.mono (fun _ _ h => h.elim)).grown hg (fun i e _ => e.symm)
  have hq : ∀ i, i ≤ Q → ¬ some i = vs.ownBlock := fun i hi e => by have := (h.ns i e.symm).1; omega
  have hkq := keep_q w3 Q 4 (.slice (some ⟨g, 0, none⟩) (stops.length + 1) cap)
  have hb := hk3.block Q h.iq (hq Q (Nat.le_refl _))
  have c : ∀ {o : Nat} {u : Value}, w2.cell? ⟨Q, o, none⟩ = some u → w3.cell? ⟨Q, o, none⟩ = some u := fun hc => (World.cell?_of_block hb).trans hc
  have ho3 := own_keep h.oo hk3 (fun g hg e => own_apart h.oo h.os (by decide) g hg e.symm)
  have hp3 := own_keep hp1 hk3 (fun g hg e => own_apart hp1 h.os (by decide) g hg e.symm)
  have hm3 := h.mom.keep hk3 (hq M (Nat.le_of_lt h.lm)) (hq G (Nat.le_of_lt h.lg)) (hq H (Nat.le_of_lt h.lh))
  have far : ∀ i, Q + 1 ≤ i → ¬ i = Q := fun i hi e => by omega
  refine ⟨hm3.keep hkq (by have := h.lm; omega) (by have := h.lg; omega) (by have := h.lh; omega), cell_set (c h.r0) (by omega), cell_set (c h.r1) (by omega), cell_set (c h.r2) (by omega), cell_set (c h.r3) (by omega), cell_put (c h.r4), frozen_set (fun o => (World.frozen?_of_block hb).trans (h.rf o)), own_keep ho3 hkq (fun g hg => far g (own_in ho3 g hg).1), ?_, ⟨np, xs, own_keep hp3 hkq (fun g hg => far g (own_in hp3 g hg).1), hp2⟩, h.ap, h.lm, h.lg, h.lh⟩
  rw [List.length_append, snCells_snoc]
  exact own_keep hown hkq (fun g hg => far g (own_in hown g hg).1)
/-- A place joins. -/
theorem RunInv.place {y : Value} {np : Nat} {xs : List Value} {g cap B : Nat} (h : RunInv w2 M G H R V Q s outs stops k vo vs vp m) (hz : Keep (fun _ => False) w2 wz) (hg : wz.grownBy w3 vp.ownBlock) (hB : w2.heap.size ≤ B) (hnp : np ≤ m)
    (hown : w3.ownsRow (Q + 1) 3 1 (.slice (some ⟨g, 0, none⟩) (np + 1) cap) (np + 1) (xs ++ [y])) (hat : vp.ownBlock = some g ∨ g = B) :
    RunInv w3 M G H R V Q s outs stops k vo vs (.slice (some ⟨g, 0, none⟩) (np + 1) cap) (m + 1) := by
  have hk3 : Keep (fun i => some i = vp.ownBlock) w2 w3 := (hz.mono (fun _ _ h => h.elim)).grown hg (fun i e _ => e.symm)
  have hq : ∀ i, i ≤ Q → ¬ some i = vp.ownBlock := fun i hi e => by have := (h.np i e.symm).1; omega
  obtain ⟨np', xs', hp1, _⟩ := h.pl
  have hb := hk3.block Q h.iq (hq Q (Nat.le_refl _))
  have c : ∀ {o : Nat} {u : Value}, w2.cell? ⟨Q, o, none⟩ = some u → w3.cell? ⟨Q, o, none⟩ = some u := fun hc => (World.cell?_of_block hb).trans hc
  have ho3 := own_keep h.oo hk3 (fun g hg e => h.ap g hg e.symm)
  have hs3 := own_keep h.os hk3 (fun g hg e => own_apart h.os hp1 (by decide) g hg e.symm)
  have hm3 := h.mom.keep hk3 (hq M (Nat.le_of_lt h.lm)) (hq G (Nat.le_of_lt h.lg)) (hq H (Nat.le_of_lt h.lh))
  refine ⟨hm3, c h.r0, c h.r1, c h.r2, c h.r3, c h.r4, fun o => (World.frozen?_of_block hb).trans (h.rf o), ho3, hs3, ⟨_, _, hown, by omega⟩, ?_, h.lm, h.lg, h.lh⟩
  intro i hi e
  have hig : g = i := by injection e
  subst hig
  rcases hat with hat | hat
  · exact h.ap g hi hat
  · have := (h.no g hi).2; omega
/-- The moment has passed an instruction. -/
theorem RunInv.pass (h : RunInv w M G H R V Q s outs stops k vo vs vp m) (hm : MomB w' M G H R V s') (hk : Keep (Mine M G H) w w') : RunInv w' M G H R V Q s' outs stops k vo vs vp m := by
  have hlm := h.lm
  have hlg := h.lg
  have hlh := h.lh
  have hn : ∀ i, Q ≤ i → ¬ Mine M G H i := fun i hi e => by rcases e with e | e | e <;> omega
  have hb := hk.block Q h.iq (hn Q (Nat.le_refl _))
  obtain ⟨np, xs, hp1, hp2⟩ := h.pl
  exact ⟨hm, (World.cell?_of_block hb).trans h.r0, (World.cell?_of_block hb).trans h.r1, (World.cell?_of_block hb).trans h.r2, (World.cell?_of_block hb).trans h.r3, (World.cell?_of_block hb).trans h.r4, fun o => (World.frozen?_of_block hb).trans (h.rf o), own_keep h.oo hk (fun g hg => hn g (by have := (h.no g hg).1; omega)), own_keep h.os hk (fun g hg => hn g (by have := (h.ns g hg).1; omega)), ⟨np, xs, own_keep hp1 hk (fun g hg => hn g (by have := (h.np g hg).1; omega)), hp2⟩, h.ap, h.lm, h.lg, h.lh⟩
/-- The steps are counted. -/
theorem RunInv.count (h : RunInv w M G H R V Q s outs stops k vo vs vp m) (j : Nat) {z : Int} (hz : z = (j : Int)) : RunInv (w.setCell ⟨Q, 2, none⟩ (.int .i64 z)) M G H R V Q s outs stops j vo vs vp m := by
  rw [hz]
  have hkq := keep_q w Q 2 (.int .i64 (j : Int))
  obtain ⟨np, xs, hp1, hp2⟩ := h.pl
  have far : ∀ i, Q + 1 ≤ i → ¬ i = Q := fun i hi e => by omega
  exact ⟨h.mom.keep hkq (by have := h.lm; omega) (by have := h.lg; omega) (by have := h.lh; omega), cell_set h.r0 (by omega), cell_set h.r1 (by omega), cell_put h.r2, cell_set h.r3 (by omega), cell_set h.r4 (by omega), frozen_set h.rf, own_keep h.oo hkq (fun g hg => far g (h.no g hg).1), own_keep h.os hkq (fun g hg => far g (h.ns g hg).1), ⟨np, xs, own_keep hp1 hkq (fun g hg => far g (h.np g hg).1), hp2⟩, h.ap, h.lm, h.lg, h.lh⟩
theorem RunInv.mono {m' : Nat} (h : RunInv w M G H R V Q s outs stops k vo vs vp m) (hm : m ≤ m') : RunInv w M G H R V Q s outs stops k vo vs vp m' := by
  obtain ⟨np, xs, hp1, hp2⟩ := h.pl
  exact ⟨h.mom, h.r0, h.r1, h.r2, h.r3, h.r4, h.rf, h.oo, h.os, ⟨np, xs, hp1, by omega⟩, h.ap, h.lm, h.lg, h.lh⟩
end
end Go.Proofs.YtoepcplbpochpaaDoor
