/-
  Plain mathematics: a table that grows by one place at a time: it is a table, and what it tells.
-/
import Derived.Test.YtoepcplbpochpaaDoorPiece17
import Derived.Test.YtoepcplbpochpaaDoorPiece20
import Derived.Test.YtoepcplbpochpaaDoorPiece19
import Derived.Deep.RegionHeld3
import Derived.Handy

namespace Go.Proofs.YtoepcplbpochpaaDoor
open Go.RowKit

theorem rg_left {A : List Rg} {x : Rg} {i : Nat} (h : i < A.length) : rg (A ++ [x]) i = rg A i := by
  unfold rg; rw [List.getD_eq_getElem?_getD, List.getD_eq_getElem?_getD, List.getElem?_append_left h]
theorem rg_last (A : List Rg) (x : Rg) : rg (A ++ [x]) A.length = x := by
  unfold rg; rw [List.getD_eq_getElem?_getD, List.getElem?_append_right (Nat.le_refl _)]; simp
theorem tab_cut {A : List Rg} {x : Rg} : tabTo (A ++ [x]) A.length = tabTo A A.length := by
  unfold tabTo
  rw [Bool.eq_iff_iff, List.all_eq_true, List.all_eq_true]
  refine forall_congr' (fun i => forall_congr' (fun hi => ?_))
  rw [List.mem_range] at hi
  rw [rg_left hi]
  by_cases h0 : i = 0
  · simp [h0]
  · rw [rg_left (show i - 1 < A.length by omega)]
/-- Does x stand rightly behind A? -/
def behindT (A : List Rg) (x : Rg) : Prop := A.length = 0 ∨ follows (rg A (A.length - 1)) x = true
theorem tab_snoc {A : List Rg} {x : Rg} : tabTo (A ++ [x]) (A ++ [x]).length = true ↔ tabTo A A.length = true ∧ isRg x = true ∧ behindT A x := by
  rw [List.length_append, show ([x] : List Rg).length = 1 from rfl, tabTo_succ, tab_cut, rg_last, Bool.and_eq_true, Bool.and_eq_true, Bool.or_eq_true, decide_eq_true_iff]
  unfold behindT
  by_cases h0 : A.length = 0
  · simp [h0]
  · rw [rg_left (show A.length - 1 < A.length by omega)]
theorem set_last (A : List Rg) (l x : Rg) : (A ++ [l]).set ((A ++ [l]).length - 1) x = A ++ [x] := by
  rw [List.length_append, show A.length + [l].length - 1 = A.length by simp, List.set_append_right _ _ (Nat.le_refl _)]; simp
theorem addR_nil (g : Rg) : addR [] g = [g] := rfl
theorem addR_snoc (A : List Rg) (l g : Rg) : addR (A ++ [l]) g = if goesB l g = true then A ++ [⟨l.v, l.f, g.t, l.k, l.a⟩] else A ++ [l] ++ [g] := by
  have e : rg (A ++ [l]) ((A ++ [l]).length - 1) = l := by rw [List.length_append, show A.length + [l].length - 1 = A.length by simp]; exact rg_last A l
  unfold addR
  rw [e]
  by_cases h : goesB l g = true
  · rw [if_pos ⟨by simp, h⟩, if_pos h, set_last]
  · rw [if_neg (fun k => h k.2), if_neg h]
theorem snoc_cases (R : List Rg) : R = [] ∨ ∃ A l, R = A ++ [l] := by
  rcases Nat.eq_zero_or_pos R.length with h | h
  · exact .inl (List.length_eq_zero_iff.1 h)
  · exact .inr ⟨R.dropLast, R.getLast (fun e => by rw [e] at h; simp at h), (List.dropLast_concat_getLast _).symm⟩
/-- A table whose last range ends ahead of the place p of the variable v. -/
def GoodT (R : List Rg) (v p : Int) : Prop := tabTo R R.length = true ∧ ∀ A l, R = A ++ [l] → l.v < v ∨ (l.v = v ∧ l.t ≤ p)
theorem goodT_nil (v p : Int) : GoodT [] v p := ⟨rfl, fun A l e => by have := congrArg List.length e; simp at this⟩
theorem GoodT.on {R : List Rg} {v p q : Int} (h : GoodT R v p) (hq : p ≤ q) : GoodT R v q := ⟨h.1, fun A l e => by have := h.2 A l e; omega⟩
theorem GoodT.next {R : List Rg} {v p q : Int} (h : GoodT R v p) : GoodT R (v + 1) q := ⟨h.1, fun A l e => by have := h.2 A l e; omega⟩
theorem isRg_iff (r : Rg) : isRg r = true ↔ (0 ≤ r.v ∧ r.v < 4 ∧ 0 ≤ r.f ∧ r.f < r.t ∧ r.t ≤ 164 ∧ 0 ≤ r.k ∧ r.k ≤ 2 ∧ 0 ≤ r.a ∧ r.a ≤ 65535) := by unfold isRg; rw [decide_eq_true_iff]
theorem snoc_inj {A B : List Rg} {x y : Rg} (h : A ++ [x] = B ++ [y]) : A = B ∧ x = y := by
  have := List.append_inj' h rfl
  exact ⟨this.1, by simpa using this.2⟩
theorem goes_iff (a b : Rg) : goesB a b = true ↔ a.v = b.v ∧ a.t = b.f ∧ a.k = b.k ∧ a.a = b.a := by
  unfold goesB
  rw [Bool.and_eq_true, Bool.and_eq_true, Bool.and_eq_true, beq_iff_eq, beq_iff_eq, beq_iff_eq, beq_iff_eq]
  exact ⟨fun ⟨⟨⟨a, b⟩, c⟩, d⟩ => ⟨a, b, c, d⟩, fun ⟨a, b, c, d⟩ => ⟨⟨⟨a, b⟩, c⟩, d⟩⟩
theorem add_good {R : List Rg} {g : Rg} {p : Int} (h : GoodT R g.v p) (hg : isRg g = true) (hf : g.f = p) (ht : g.t = p + 1) : GoodT (addR R g) g.v (p + 1) := by
  rcases snoc_cases R with rfl | ⟨A, l, rfl⟩
  · rw [addR_nil]
    refine ⟨(tab_snoc (A := []) (x := g)).2 ⟨rfl, hg, .inl rfl⟩, fun A l e => ?_⟩
    obtain ⟨_, rfl⟩ := snoc_inj (A := []) e
    omega
  · obtain ⟨h1, h2⟩ := h
    have hl := h2 A l rfl
    obtain ⟨t1, t2, t3⟩ := tab_snoc.1 h1
    rw [addR_snoc]
    by_cases e : goesB l g = true
    · rw [if_pos e]
      obtain ⟨e1, e2, e3, e4⟩ := (goes_iff l g).1 e
      have hlr := (isRg_iff l).1 t2
      have hgr := (isRg_iff g).1 hg
      refine ⟨tab_snoc.2 ⟨t1, (isRg_iff _).2 ?_, ?_⟩, fun B m e => ?_⟩
      · simp only; omega
      · rcases t3 with t3 | t3
        · exact .inl t3
        · right
          unfold follows at t3 ⊢
          exact t3
      · obtain ⟨_, rfl⟩ := snoc_inj e
        simp only; omega
    · rw [if_neg e]
      refine ⟨tab_snoc.2 ⟨h1, hg, .inr ?_⟩, fun B m e => ?_⟩
      · have el : rg (A ++ [l]) ((A ++ [l]).length - 1) = l := by rw [List.length_append, show A.length + [l].length - 1 = A.length by simp]; exact rg_last A l
        rw [el]
        have e' : ¬ (l.v = g.v ∧ l.t = g.f ∧ l.k = g.k ∧ l.a = g.a) := fun k => e ((goes_iff l g).2 k)
        unfold follows
        by_cases hv : l.v ≠ g.v
        · rw [if_pos hv, decide_eq_true_iff]; omega
        · rw [if_neg hv]
          by_cases htt : l.t ≠ g.f
          · rw [if_pos htt, decide_eq_true_iff]; omega
          · rw [if_neg htt, decide_eq_true_iff]
            have hv' : l.v = g.v := Classical.not_not.1 hv
            have ht' : l.t = g.f := Classical.not_not.1 htt
            by_cases hk : l.k = g.k
            · right; intro ha; exact e' ⟨hv', ht', hk, ha⟩
            · exact .inl hk
      · obtain ⟨_, rfl⟩ := snoc_inj e
        omega
/-- A table tells of the variable x at the place q: the kind k, the place a. -/
def Tells (R : List Rg) (x q k a : Int) : Prop := ∃ r ∈ R, r.v = x ∧ r.f ≤ q ∧ q < r.t ∧ r.k = k ∧ r.a = a
theorem add_tells {R : List Rg} {g : Rg} {p : Int} (h : GoodT R g.v p) (hf : g.f = p) (ht : g.t = p + 1) (x q k a : Int) : Tells (addR R g) x q k a ↔ Tells R x q k a ∨ (x = g.v ∧ q = p ∧ k = g.k ∧ a = g.a) := by
  have hone : (∃ r ∈ [g], r.v = x ∧ r.f ≤ q ∧ q < r.t ∧ r.k = k ∧ r.a = a) ↔ (x = g.v ∧ q = p ∧ k = g.k ∧ a = g.a) := by
    constructor
    · rintro ⟨r, hr, h1, h2, h3, h4, h5⟩
      rw [List.mem_singleton] at hr; subst hr
      omega
    · rintro ⟨h1, h2, h3, h4⟩
      exact ⟨g, List.mem_singleton.2 rfl, by omega⟩
  have happ : ∀ A B : List Rg, Tells (A ++ B) x q k a ↔ Tells A x q k a ∨ Tells B x q k a := fun A B => by
    unfold Tells
    constructor
    · rintro ⟨r, hr, h⟩
      rw [List.mem_append] at hr
      exact hr.elim (fun hr => .inl ⟨r, hr, h⟩) (fun hr => .inr ⟨r, hr, h⟩)
    · rintro (⟨r, hr, h⟩ | ⟨r, hr, h⟩)
      · exact ⟨r, List.mem_append.2 (.inl hr), h⟩
      · exact ⟨r, List.mem_append.2 (.inr hr), h⟩
  rcases snoc_cases R with rfl | ⟨A, l, rfl⟩
  · rw [addR_nil]
    refine hone.trans ⟨.inr, fun h => h.resolve_left ?_⟩
    rintro ⟨r, hr, _⟩; cases hr
  · rw [addR_snoc]
    by_cases e : goesB l g = true
    · rw [if_pos e, happ, happ]
      obtain ⟨e1, e2, e3, e4⟩ := (goes_iff l g).1 e
      have hlt : l.f < l.t := isRg_lt (tab_snoc.1 h.1).2.1
      have hlast : Tells [⟨l.v, l.f, g.t, l.k, l.a⟩] x q k a ↔ Tells [l] x q k a ∨ (x = g.v ∧ q = p ∧ k = g.k ∧ a = g.a) := by
        unfold Tells
        constructor
        · rintro ⟨r, hr, h1, h2, h3, h4, h5⟩
          rw [List.mem_singleton] at hr; subst hr
          simp only at h1 h2 h3 h4 h5
          by_cases hq : q < l.t
          · exact .inl ⟨l, List.mem_singleton.2 rfl, h1, h2, hq, h4, h5⟩
          · right; omega
        · rintro (⟨r, hr, h1, h2, h3, h4, h5⟩ | ⟨h1, h2, h3, h4⟩)
          · rw [List.mem_singleton] at hr; subst hr
            exact ⟨_, List.mem_singleton.2 rfl, h1, h2, by show q < g.t; omega, h4, h5⟩
          · exact ⟨_, List.mem_singleton.2 rfl, by show l.v = x; omega, by show l.f ≤ q; omega, by show q < g.t; omega, by show l.k = k; omega, by show l.a = a; omega⟩
      rw [hlast]
      exact ⟨fun h => h.elim (fun h => .inl (.inl h)) (fun h => h.elim (fun h => .inl (.inr h)) .inr), fun h => h.elim (fun h => h.elim .inl (fun h => .inr (.inl h))) (fun h => .inr (.inr h))⟩
    · rw [if_neg e, happ]
      exact ⟨fun h => h.elim .inl (fun h => .inr (hone.1 h)), fun h => h.elim .inl (fun h => .inr (hone.2 h))⟩

/-- What is told of a place of the program. -/
def TellsAt (hs : Nat → Bool) (ha : Nat → Nat) (st : Nat → Nat) (L : List In4) (v i : Nat) (x q k a : Int) : Prop :=
  (inAt L i).op = 11 ∧ canB (factB L i v) (liveB L i) = true ∧ x = v ∧ q = st i ∧ k = placeK (factB L i v) hs ∧ a = placeA (factB L i v) ha
/-- Where what comes of the instructions begins: a Stop comes to one. -/
structure Pos (L : List In4) (st Q : Nat → Nat) : Prop where
  st : ∀ i, i < L.length → st i = Q i
  up : ∀ i, i < L.length → Q i ≤ Q (i + 1)
  stop : ∀ i, i < L.length → (inAt L i).op = 11 → Q (i + 1) = Q i + 1
theorem Pos.mono {L : List In4} {st Q : Nat → Nat} (h : Pos L st Q) (i : Nat) : ∀ d, i + d ≤ L.length → Q i ≤ Q (i + d)
  | 0, _ => Nat.le_refl _
  | d + 1, hd => Nat.le_trans (h.mono i d (by omega)) (h.up (i + d) (by omega))
theorem rngI_good {hs : Nat → Bool} {ha : Nat → Nat} {st Q : Nat → Nat} {L : List In4} {v : Nat} {R : List Rg} (hp : Pos L st Q) (hR : GoodT R v (Q 0)) (hv : v < 4) (hQ : Q L.length ≤ 164)
    (hpl : ∀ i, i < L.length → canB (factB L i v) (liveB L i) = true → 0 ≤ placeA (factB L i v) ha ∧ placeA (factB L i v) ha ≤ 65535) :
    ∀ k, k ≤ L.length → GoodT (rngI hs ha st L v R k) v (Q k) ∧ ∀ x q kk a, Tells (rngI hs ha st L v R k) x q kk a ↔ Tells R x q kk a ∨ ∃ i, i < k ∧ TellsAt hs ha st L v i x q kk a
  | 0, _ => ⟨hR, fun x q kk a => ⟨.inl, fun h => h.elim id (fun ⟨i, hi, _⟩ => by omega)⟩⟩
  | k + 1, hk => by
    obtain ⟨ih1, ih2⟩ := rngI_good hp hR hv hQ hpl k (by omega)
    have hup := hp.up k (by omega)
    show GoodT (rngS hs ha st L v k _) v (Q (k + 1)) ∧ ∀ x q kk a, Tells (rngS hs ha st L v k _) x q kk a ↔ _
    unfold rngS
    by_cases h : (inAt L k).op = 11 ∧ canB (factB L k v) (liveB L k) = true
    · rw [if_pos h]
      have hq := hp.stop k (by omega) h.1
      have hs' := hp.st k (by omega)
      have hle := hp.mono (k + 1) (L.length - (k + 1)) (by omega)
      rw [show k + 1 + (L.length - (k + 1)) = L.length by omega] at hle
      obtain ⟨a0, a1⟩ := hpl k (by omega) h.2
      have hk3 : 0 ≤ placeK (factB L k v) hs ∧ placeK (factB L k v) hs ≤ 2 := by
        unfold placeK
        split
        · exact ⟨by decide, by decide⟩
        split
        · exact ⟨by decide, by decide⟩
        · exact ⟨by decide, by decide⟩
      have hg : isRg ⟨v, st k, (st k : Int) + 1, placeK (factB L k v) hs, placeA (factB L k v) ha⟩ = true := (isRg_iff _).2 (by simp only; omega)
      have ih1' : GoodT (rngI hs ha st L v R k) (Rg.v ⟨v, st k, (st k : Int) + 1, placeK (factB L k v) hs, placeA (factB L k v) ha⟩) (Q k) := ih1
      refine ⟨?_, fun x q kk a => ?_⟩
      · have := add_good ih1' hg (by show (st k : Int) = Q k; omega) (by show (st k : Int) + 1 = Q k + 1; omega)
        exact GoodT.on this (by omega)
      · rw [add_tells ih1' (by show (st k : Int) = Q k; omega) (by show (st k : Int) + 1 = Q k + 1; omega), ih2]
        constructor
        · rintro ((h1 | ⟨i, hi, h1⟩) | ⟨h1, h2, h3, h4⟩)
          · exact .inl h1
          · exact .inr ⟨i, by omega, h1⟩
          · exact .inr ⟨k, by omega, h.1, h.2, h1, by omega, h3, h4⟩
        · rintro (h1 | ⟨i, hi, h1⟩)
          · exact .inl (.inl h1)
          · by_cases e : i = k
            · subst e; obtain ⟨_, _, g1, g2, g3, g4⟩ := h1; exact .inr ⟨g1, by omega, g3, g4⟩
            · exact .inl (.inr ⟨i, by omega, h1⟩)
    · rw [if_neg h]
      refine ⟨ih1.on (by omega), fun x q kk a => ?_⟩
      rw [ih2]
      constructor
      · rintro (h1 | ⟨i, hi, h1⟩)
        · exact .inl h1
        · exact .inr ⟨i, by omega, h1⟩
      · rintro (h1 | ⟨i, hi, h1⟩)
        · exact .inl h1
        · by_cases e : i = k
          · subst e; exact absurd ⟨h1.1, h1.2.1⟩ h
          · exact .inr ⟨i, by omega, h1⟩
theorem rngV_good {hs : Nat → Bool} {ha : Nat → Nat} {st Q : Nat → Nat} {L : List In4} (hp : Pos L st Q) (hQ : Q L.length ≤ 164)
    (hpl : ∀ v i, v < 4 → i < L.length → canB (factB L i v) (liveB L i) = true → 0 ≤ placeA (factB L i v) ha ∧ placeA (factB L i v) ha ≤ 65535) :
    ∀ v, v ≤ 4 → GoodT (rngV hs ha st L v) v (Q 0) ∧ ∀ x q kk a, Tells (rngV hs ha st L v) x q kk a ↔ ∃ u i, u < v ∧ i < L.length ∧ TellsAt hs ha st L u i x q kk a
  | 0, _ => ⟨goodT_nil _ _, fun x q kk a => ⟨fun ⟨r, hr, _⟩ => (by cases hr), fun ⟨u, i, hu, _⟩ => (by omega)⟩⟩
  | v + 1, hv => by
    obtain ⟨ih1, ih2⟩ := rngV_good hp hQ hpl v (by omega)
    obtain ⟨h1, h2⟩ := rngI_good (hs := hs) (ha := ha) hp ih1 (by omega) hQ (fun i hi => hpl v i (by omega) hi) L.length (Nat.le_refl _)
    refine ⟨?_, fun x q kk a => ?_⟩
    · have := h1.next (q := (Q 0 : Int))
      rw [show ((v : Int) + 1) = ((v + 1 : Nat) : Int) by omega] at this
      exact this
    · show Tells (rngI hs ha st L v (rngV hs ha st L v) L.length) x q kk a ↔ _
      rw [h2, ih2]
      constructor
      · rintro (⟨u, i, hu, hi, h⟩ | ⟨i, hi, h⟩)
        · exact ⟨u, i, by omega, hi, h⟩
        · exact ⟨v, i, by omega, hi, h⟩
      · rintro ⟨u, i, hu, hi, h⟩
        by_cases e : u = v
        · subst e; exact .inr ⟨i, hi, h⟩
        · exact .inl ⟨u, i, by omega, hi, h⟩
end Go.Proofs.YtoepcplbpochpaaDoor

/-
  Plain mathematics: the unit that Compile makes is right, and what its table tells.
-/
namespace Go.Proofs.YtoepcplbpochpaaDoor
open Go.RowKit

/-- A variable is tied to constants that may be. -/
theorem fact_const {P R V : Int} {L : List In4} (hp : RightP P R V L) (i v : Nat) : (factB L i v).k = 2 → 0 ≤ (factB L i v).a ∧ (factB L i v).a ≤ 65535 := by
  unfold factB
  rw [factM_pass]
  refine Chaos.iter_inv (n := L.length) (f := sprF L v) (I := fun h => ∀ j, (h j).k = 2 → 0 ≤ (h j).a ∧ (h j).a ≤ 65535) (fun k hk g hg => ?_) (List.range L.length) (fun i hi => List.mem_range.1 hi) _ startF (fun j h => ?_) i
  · have hx := hp.ins k hk
    have hb : ∀ f : Ft, (f.k = 2 → 0 ≤ f.a ∧ f.a ≤ 65535) → (behF (inAt L k) v f).k = 2 → 0 ≤ (behF (inAt L k) v f).a ∧ (behF (inAt L k) v f).a ≤ 65535 := fun f hf => by
      unfold behF
      split
      · exact hf
      split
      · intro h; cases h
      split
      · split
        · intro h; cases h
        · split
          · rename_i h13
            intro _
            exact hx.2.2.2.2.2.1 (.inr h13)
          · intro h; cases h
      · exact hf
    have hm : ∀ f g : Ft, (f.k = 2 → 0 ≤ f.a ∧ f.a ≤ 65535) → (g.k = 2 → 0 ≤ g.a ∧ g.a ≤ 65535) → (metF f g).k = 2 → 0 ≤ (metF f g).a ∧ (metF f g).a ≤ 65535 := fun f g hf hg => by
      unfold metF
      split
      · exact hg
      split
      · exact hf
      · intro h; cases h
    have step : ∀ (p : Int) (f : Ft) (h : Nat → Ft), (f.k = 2 → 0 ≤ f.a ∧ f.a ≤ 65535) → (∀ j, (h j).k = 2 → 0 ≤ (h j).a ∧ (h j).a ≤ 65535) → ∀ j, (bring p f h j).k = 2 → 0 ≤ (bring p f h j).a ∧ (bring p f h j).a ≤ 65535 := fun p f h hf hh j => by
      unfold bring
      split
      · exact hh j
      · show (if j = p.toNat then metF (h j) f else h j).k = 2 → 0 ≤ (if j = p.toNat then metF (h j) f else h j).a ∧ (if j = p.toNat then metF (h j) f else h j).a ≤ 65535
        split
        · exact hm _ _ (hh j) hf
        · exact hh j
    exact step _ _ _ (hb _ (hg k)) (step _ _ _ (hb _ (hg k)) hg)
  · unfold startF at h
    split at h <;> cases h

/-- The places in the unit's code. -/
def cmpS (P R K : Nat) (L : List In4) : Nat → Nat := stF (homS L R K) (homA L R K) K (liveB L 0) P L L.length
def cmpQ (P R K : Nat) (L : List In4) : Nat → Nat := fun i => (wTo (homS L R K) (homA L R K) K (liveB L 0) P L i).length
theorem cmp_pos (P R K : Nat) (L : List In4) : Pos L (cmpS P R K L) (cmpQ P R K L) := by
  refine ⟨fun i hi => ?_, fun i hi => ?_, fun i hi h => ?_⟩
  · unfold cmpS cmpQ stF; rw [if_pos hi]
  · exact wTo_mono (homS L R K) (homA L R K) K (liveB L 0) P L i 1
  · unfold cmpQ
    show (wTo (homS L R K) (homA L R K) K (liveB L 0) P L i ++ insC (homS L R K) (homA L R K) K (inAt L i)).length = _
    rw [List.length_append]
    have : insC (homS L R K) (homA L R K) K (inAt L i) = [⟨(inAt L i).op, 0, (inAt L i).a, 0⟩] := by
      unfold insC; rw [if_neg (by omega), if_neg (by omega), if_neg (by omega), if_neg (by omega), if_neg (by omega), if_pos (.inr h)]
    rw [this]; rfl
theorem cmpC_len {P R K : Nat} {L : List In4} : (cmpC P R K L).length = cmpQ P R K L L.length := by unfold cmpC codeB cmpQ; rw [List.length_map]

theorem can_place {P R V K : Nat} {L : List In4} (hp : RightP P R V L) (v i : Nat) (hc : canB (factB L i v) (liveB L i) = true) :
    ((factB L i v).k = 2 ∧ placeK (factB L i v) (homS L R K) = 2 ∧ placeA (factB L i v) (homA L R K) = (factB L i v).a ∧ 0 ≤ (factB L i v).a ∧ (factB L i v).a ≤ 65535) ∨
    (∃ r : Nat, (factB L i v).k = 3 ∧ (factB L i v).a = r ∧ r < R ∧ liveB L i r = true ∧ placeK (factB L i v) (homS L R K) = (if homS L R K r = true then 1 else 0) ∧ placeA (factB L i v) (homA L R K) = homA L R K r) := by
  have h3 := fact_reg hp i v
  have h2 := fact_const hp i v
  generalize factB L i v = f at *
  unfold canB at hc
  rw [Bool.or_eq_true, Bool.and_eq_true, beq_iff_eq, beq_iff_eq] at hc
  by_cases e : f.k = 2
  · left; unfold placeK placeA; rw [if_pos e, if_pos e]; exact ⟨e, rfl, rfl, h2 e⟩
  · right
    obtain ⟨hk, hl⟩ := hc.resolve_left e
    obtain ⟨a0, a1⟩ := h3 hk
    refine ⟨f.a.toNat, hk, by omega, by omega, hl, ?_, ?_⟩
    · unfold placeK; rw [if_neg e]
    · unfold placeA; rw [if_neg e]
theorem cmp_table {P R V K : Nat} {L : List In4} (hp : RightP P R V L) (hK : 2 ≤ K) (hK' : K ≤ 16) :
    isTab (cmpR P R V K L) = true ∧ (∀ x q kk a, Tells (cmpR P R V K L) x q kk a ↔ ∃ u i, u < V ∧ i < L.length ∧ TellsAt (homS L R K) (homA L R K) (cmpS P R K L) L u i x q kk a) := by
  have hPR : P ≤ R := by have := hp.pr; omega
  have hV : V ≤ 4 := by have := hp.v4; omega
  have hok := hom_ok L P R K hK hPR
  have hsl := slots_bound L P R K hPR
  have hq : cmpQ P R K L L.length ≤ 164 := by
    have := wTo_len (homS L R K) (homA L R K) K (liveB L 0) P L L.length
    have := hp.p4; have := hp.n40
    unfold cmpQ; omega
  have hR12 := hp.r12
  have hpl : ∀ v i, v < 4 → i < L.length → canB (factB L i v) (liveB L i) = true → 0 ≤ placeA (factB L i v) (homA L R K) ∧ placeA (factB L i v) (homA L R K) ≤ 65535 := fun v i _ _ hc => by
    rcases can_place (K := K) hp v i hc with ⟨_, _, h3, h4, h5⟩ | ⟨r, _, _, hr, _, _, h6⟩
    · rw [h3]; exact ⟨h4, h5⟩
    · rw [h6]
      cases e : homS L R K r with
      | true => have := hok.slot r hr e; omega
      | false => have := hok.reg r hr e; omega
  obtain ⟨h1, h2⟩ := rngV_good (hs := homS L R K) (ha := homA L R K) (cmp_pos P R K L) hq hpl V hV
  refine ⟨?_, h2⟩
  unfold isTab
  rw [Bool.and_eq_true, decide_eq_true_iff]
  refine ⟨?_, h1.1⟩
  have := rngV_len (homS L R K) (homA L R K) (cmpS P R K L) L V
  have h3 : V * L.length ≤ 4 * 40 := Nat.mul_le_mul hV hp.n40
  exact Nat.le_trans this (by omega)
theorem rg_mem {R : List Rg} {i : Nat} (h : i < R.length) : rg R i ∈ R := by
  unfold rg; rw [List.getD_eq_getElem?_getD, List.getElem?_eq_getElem h]; exact List.getElem_mem h
theorem cmp_in {P R V K : Nat} {L : List In4} (hp : RightP P R V L) (hK : 2 ≤ K) (hK' : K ≤ 16) : TabIn K (slotsB L P R K) V (cmpC P R K L).length (cmpR P R V K L) := fun j hj => by
  obtain ⟨h1, h2⟩ := cmp_table hp hK hK'
  have hPR : P ≤ R := by have := hp.pr; omega
  have hok := hom_ok L P R K hK hPR
  have hrg := (isRg_iff _).1 (isTab_rg h1 hj)
  obtain ⟨u, i, hu, hi, g1, g2, g3, g4, g5, g6⟩ := (h2 (rg (cmpR P R V K L) j).v ((rg (cmpR P R V K L) j).t - 1) (rg (cmpR P R V K L) j).k (rg (cmpR P R V K L) j).a).1 ⟨rg (cmpR P R V K L) j, rg_mem hj, rfl, by omega, by omega, rfl, rfl⟩
  have hs := (cmp_pos P R K L).st i hi
  have hst := (cmp_pos P R K L).stop i hi g1
  have hle := (cmp_pos P R K L).mono (i + 1) (L.length - (i + 1)) (by omega)
  rw [show i + 1 + (L.length - (i + 1)) = L.length by omega] at hle
  refine ⟨by omega, by rw [cmpC_len]; omega, fun hk => ?_, fun hk => ?_⟩
  · rcases can_place (K := K) hp u i g2 with ⟨_, h3, _⟩ | ⟨r, _, _, hr, _, h5, h6⟩
    · omega
    · rw [g6, h6]
      cases e : homS L R K r with
      | true => rw [e, if_pos rfl] at h5; omega
      | false => have := hok.reg r hr e; omega
  · rcases can_place (K := K) hp u i g2 with ⟨_, h3, _⟩ | ⟨r, _, _, hr, _, h5, h6⟩
    · omega
    · rw [g6, h6]
      cases e : homS L R K r with
      | true => have := hok.slot r hr e; omega
      | false => rw [e, if_neg (by decide)] at h5; omega
/-- The unit is right. -/
theorem unit_ok {P R V K : Nat} {L : List In4} (hp : RightP P R V L) (hK : 2 ≤ K) (hK' : K ≤ 16) : unitE K (slotsB L P R K) P V (cmpC P R K L) (encT (cmpR P R V K L)) = (0, 0) ∧ TabS (encT (cmpR P R V K L)) (cmpR P R V K L) := by
  have hPR : P ≤ R := by have := hp.pr; omega
  have hsl := slots_bound L P R K hPR
  obtain ⟨_, _, c1, c2⟩ := code_right hp hK (C := cmpC P R K L) rfl
  have ht := cmp_table hp hK hK'
  have hT : TabS (encT (cmpR P R V K L)) (cmpR P R V K L) := by
    refine ⟨ht.1, ?_⟩
    have e : encT (cmpR P R V K L) = wrS (flat (cmpR P R V K L)) := by
      unfold encT; rw [if_pos ht.1, encAll]
    rw [e, wrS_data]
  have hn40 := hp.n40
  have hp4 := hp.p4
  have hr12 := hp.r12
  have hv0 := hp.v0
  have hv4 := hp.v4
  refine ⟨?_, hT⟩
  rw [unitE_good (by unfold UnitBad; omega), show codedE false (cmpC P R K L) K 0 (slotsB L P R K) = (0, 0) from code_coded hp hK, if_neg (fun h => h rfl), tabB_yes ⟨_, hT, cmp_in hp hK hK'⟩, if_pos rfl]
end Go.Proofs.YtoepcplbpochpaaDoor

/-
  What the program's own unit's run tells at a Stop: (*mach.run).held, (*mach.run).ask.
-/
namespace Go.Proofs.YtoepcplbpochpaaDoor
open Go.RowKit

set_option maxRecDepth 100000 in
set_option maxHeartbeats 2000000 in
theorem held_any (B : Nat) (s : St) (vo vs : Value) (r : Rg) (w : World) (h : StB w B s vo vs) (hnv : s.env.nv = 16) (ha : r.k = 0 ∨ r.k = 1 → 0 ≤ r.a ∧ r.a < 16) :
    Calls Tryd.prog 116 #[.pointer (some ⟨B, 0, none⟩), .agg #[.int .i64 r.v, .int .i64 r.f, .int .i64 r.t, .int .i64 r.k, .int .i64 r.a]] w fun e w' =>
      e = .returned (.int .i64 (heldE s.regs s.vars r)) ∧ Below w.heap.size w w' := by
  have hB := h.lt
  obtain ⟨v, f, t, k, a⟩ := r
  simp only at ha ⊢
  obtain ⟨w2, hw2⟩ : ∃ w2, w2 = w.alloc (.cells #[.int .i64 v, .int .i64 f, .int .i64 t, .int .i64 k, .int .i64 a] 132) := ⟨_, rfl⟩
  have HS2 : Hid (StB w2 B s vo vs) := by rw [hw2]; exact h.of_block (Below.heap_alloc _ _ _ hB)
  have q : ∀ i, w2.cell? ⟨w.heap.size, i, none⟩ = #[Value.int .i64 v, .int .i64 f, .int .i64 t, .int .i64 k, .int .i64 a][i]? := fun i => by rw [hw2]; exact World.cell?_alloc_at (hn := rfl) ..
  have q3 : w2.cell? ⟨w.heap.size, 3, none⟩ = some (.int .i64 k) := (q 3).trans rfl
  have q4 : w2.cell? ⟨w.heap.size, 4, none⟩ = some (.int .i64 a) := (q 4).trans rfl
  have HB2 : Hid (Below w.heap.size w w2) := by rw [hw2]; exact (Below.refl _ _).alloc (Nat.le_refl _) _
  have HW := hide hw2
  clear q hw2 h
  by_cases h0 : k = 0
  · subst h0
    obtain ⟨a0, a1⟩ := ha (.inl rfl)
    obtain ⟨an, rfl⟩ : ∃ an : Nat, a = an := ⟨a.toNat, by omega⟩
    obtain ⟨y, hy⟩ : ∃ y, y = s.regs an := ⟨_, rfl⟩
    have ca : w2.cell? ⟨B, an, none⟩ = some (.int .i64 y) := by rw [hy]; exact (unhide HS2).1 an (by omega)
    have he := hide (show heldE s.regs s.vars ⟨v, f, t, 0, (an : Int)⟩ = y by rw [hy]; rfl)
    clear hy ha
    go_enter Tryd.func116, Tryd.ntmps116
    go_wp2_with fail
    rw [← unhide HW]
    go_wp2_with fail
    go_region_held3 (fun w' => w'.cell? ⟨w.heap.size, 4, none⟩ = some (.int .i64 (an : Int)) ∧ w'.cell? ⟨B, an, none⟩ = some (.int .i64 y)) (simp [*]) (fail)
    go_wp2_with fail
    go_ret
    exact ⟨ret_int (unhide he).symm, (unhide HB2).drew⟩
  by_cases h1 : k = 1
  · subst h1
    obtain ⟨a0, a1⟩ := ha (.inr rfl)
    obtain ⟨an, rfl⟩ : ∃ an : Nat, a = an := ⟨a.toNat, by omega⟩
    obtain ⟨y, hy⟩ : ∃ y, y = s.vars an := ⟨_, rfl⟩
    have ca : w2.cell? ⟨B, 23 + an, none⟩ = some (.int .i64 y) := by rw [hy]; exact (unhide HS2).2.1 an (by omega)
    have he := hide (show heldE s.regs s.vars ⟨v, f, t, 1, (an : Int)⟩ = y by rw [hy]; rfl)
    clear hy ha
    go_enter Tryd.func116, Tryd.ntmps116
    go_wp2_with fail
    rw [← unhide HW]
    go_wp2_with fail
    go_region_held3 (fun w' => w'.cell? ⟨w.heap.size, 4, none⟩ = some (.int .i64 (an : Int)) ∧ w'.cell? ⟨B, 23 + an, none⟩ = some (.int .i64 y)) (simp [*]) (fail)
    go_wp2_with fail
    go_ret
    exact ⟨ret_int (unhide he).symm, (unhide HB2).drew⟩
  · have e0 : (k == 0) = false := by rw [beq_eq_false_iff_ne]; exact h0
    have e1 : (k == 1) = false := by rw [beq_eq_false_iff_ne]; exact h1
    have he := hide (show heldE s.regs s.vars ⟨v, f, t, k, a⟩ = a by unfold heldE; rw [if_neg h0, if_neg h1])
    clear ha
    go_enter Tryd.func116, Tryd.ntmps116
    go_wp2_with fail
    rw [← unhide HW]
    go_wp2_with fail
    go_ret
    exact ⟨ret_int (unhide he).symm, unhide HB2⟩

theorem Tryd.size61 : (Tryd.prog.info? 61).map (·.size) = some 4 := by kernel_rfl
/-- Four numbers in a block. -/
def Four (w : World) (D : Nat) (f : Nat → Int) : Prop := (∀ v, v < 4 → w.cell? ⟨D, v, none⟩ = some (.int .i64 (f v))) ∧ ∀ o, w.frozen? ⟨D, o, none⟩ = false
theorem Four.lt {w : World} {D : Nat} {f : Nat → Int} (h : Four w D f) : D < w.heap.size := World.block_lt_of_cell? w ⟨D, 0, none⟩ (h.1 0 (by decide))
theorem Four.of_block {w w' : World} {D : Nat} {f : Nat → Int} (h : Four w D f) (hb : w'.heap[D]? = w.heap[D]?) : Four w' D f :=
  ⟨fun v hv => (World.cell?_of_block hb).trans (h.1 v hv), fun o => (World.frozen?_of_block hb).trans (h.2 o)⟩
theorem Four.set {w : World} {D : Nat} {f g : Nat → Int} (h : Four w D f) (v : Nat) (hv : v < 4) (y : Int) (hg : ∀ u, u < 4 → g u = if u = v then y else f u) : Four (w.setCell ⟨D, v, none⟩ (.int .i64 y)) D g := by
  refine ⟨fun u hu => ?_, frozen_set h.2⟩
  rw [hg u hu]
  by_cases e : u = v
  · subst e; rw [cell_put (h.1 u hu), if_pos rfl]
  · rw [cell_set (h.1 u hu) e, if_neg e]
theorem Four.to {w : World} {D : Nat} {f g : Nat → Int} (h : Four w D f) (hg : ∀ u, u < 4 → g u = f u) : Four w D g := ⟨fun u hu => by rw [hg u hu]; exact h.1 u hu, h.2⟩
theorem four_row {w : World} {D : Nat} {a b c d : Value} {t : TypeId} {f : Nat → Int} (h : w.heap[D]? = some (.cells #[a, b, c, d] t (0, 0))) (h0 : a = .int .i64 (f 0)) (h1 : b = .int .i64 (f 1)) (h2 : c = .int .i64 (f 2)) (h3 : d = .int .i64 (f 3)) : Four w D f := by
  refine ⟨fun v hv => ?_, fun o => by simp [World.frozen?, h]⟩
  rw [cell_of_row w D v _ t (0, 0) h]
  rcases (show v = 0 ∨ v = 1 ∨ v = 2 ∨ v = 3 by omega) with rfl | rfl | rfl | rfl
  · rw [h0]; rfl
  · rw [h1]; rfl
  · rw [h2]; rfl
  · rw [h3]; rfl
theorem set4 {w : World} {g : Nat} {z0 z1 z2 z3 : Value} (h : w.heap[g]? = some (.cells #[z0, z1, z2, z3] 61 (0, 0))) (a b c d : Value) :
    ((((w.setCell ⟨g, 0, none⟩ a).setCell ⟨g, 1, none⟩ b).setCell ⟨g, 2, none⟩ c).setCell ⟨g, 3, none⟩ d).heap[g]? = some (.cells #[a, b, c, d] 61 (0, 0)) := by
  have h0 := heap_setCell_same w g 0 _ 61 a h
  have h1 := heap_setCell_same _ g 1 _ 61 b h0
  have h2 := heap_setCell_same _ g 2 _ 61 c h1
  have h3 := heap_setCell_same _ g 3 _ 61 d h2
  rw [h3]; rfl
theorem below4 {B : Nat} {a w : World} {g : Nat} (h : Below B a w) (hg : B ≤ g) (v0 v1 v2 v3 : Value) : Below B a ((((w.setCell ⟨g, 0, none⟩ v0).setCell ⟨g, 1, none⟩ v1).setCell ⟨g, 2, none⟩ v2).setCell ⟨g, 3, none⟩ v3) :=
  (((h.setCell (p := ⟨g, 0, none⟩) hg _).setCell (p := ⟨g, 1, none⟩) hg _).setCell (p := ⟨g, 2, none⟩) hg _).setCell (p := ⟨g, 3, none⟩) hg _

/-- What the ranges of a unit's table keep to. -/
def RgFit (r : Rg) : Prop := 0 ≤ r.v ∧ r.v < 4 ∧ (r.k = 0 ∨ r.k = 1 → 0 ≤ r.a ∧ r.a < 16)
theorem RightU.fit {K S P V : Int} {L : List In4} {R : List Rg} (h : RightU K S P V L R) : ∀ i, i < R.length → RgFit (rg R i) := fun i hi => by
  have h1 := isTab_rg h.tab hi
  obtain ⟨g1, g2, g3, g4⟩ := h.rgs i hi
  have hv := h.v4
  have hk := h.k16
  have hs := h.s16
  simp [isRg] at h1
  refine ⟨by omega, by omega, fun hk => ?_⟩
  rcases hk with e | e
  · have := g3 e; omega
  · have := g4 e; omega

set_option maxRecDepth 100000 in
set_option maxHeartbeats 4000000 in
theorem ask_any (B : Nat) (s : St) (vo vs : Value) (R : List Rg) (ao : Option Addr) (cap i : Nat) (w : World) (h : StB w B s vo vs) (hE : s.env = unitEnv R (some (.slice ao R.length cap))) (hH : Held w ao R) (hF : ∀ i, i < R.length → RgFit (rg R i)) (hlen : R.length ≤ 1000) :
    Calls Tryd.prog 91 #[.pointer (some ⟨B, 0, none⟩), .int .i64 (i : Int)] w fun e w' =>
      e = .returned (.agg #[.int .i64 (toldTo R s.regs s.vars i 0 R.length), .int .i64 (toldTo R s.regs s.vars i 1 R.length), .int .i64 (toldTo R s.regs s.vars i 2 R.length), .int .i64 (toldTo R s.regs s.vars i 3 R.length)]) ∧ Below w.heap.size w w' := by
  have hB := h.lt
  have hnv : s.env.nv = 16 := by rw [hE]; rfl
  have c39 : w.cell? ⟨B, 39, none⟩ = some (.slice ao R.length cap) := by
    have := h.2.2.2.2.2.2.2.2.2.2 39 (by rw [hnv]; decide)
    rw [hE] at this
    exact this
  have KH := hide (fun (r : Rg) (w : World) (h : StB w B s vo vs) (ha : r.k = 0 ∨ r.k = 1 → 0 ≤ r.a ∧ r.a < 16) => held_any B s vo vs r w h hnv ha)
  have HS := hide h
  have HH := hide hH
  have HF := hide hF
  clear h hH hF hE
  go_enter Tryd.func91, Tryd.ntmps91
  go_wp2
  refine wp_loop_rounds 5 ?_
  iterate 4 (rw [rounds_succ]; go_wp2)
  rw [rounds_succ]
  go_wp2_with fail
  obtain ⟨w1, hw1⟩ : ∃ w1, w1 = (w.alloc (.cells #[.int .i64 0, .int .i64 0, .int .i64 0, .int .i64 0] 61)).alloc (.cells #[.int .i64 (-1), .int .i64 (-1), .int .i64 (-1), .int .i64 (-1)] 61) := ⟨_, rfl⟩
  rw [← hw1]
  have hz1 : w1.heap.size = w.heap.size + 2 := by rw [hw1]; simp
  have HB1 : Hid (Below w.heap.size w w1) := by rw [hw1]; exact ((Below.refl _ _).alloc (Nat.le_refl _) _).alloc (by simp) _
  have HD1 : Hid (Four w1 (w.heap.size + 1) (fun v => toldTo R s.regs s.vars i v 0)) := by
    refine four_row (t := 61) (a := .int .i64 (-1)) (b := .int .i64 (-1)) (c := .int .i64 (-1)) (d := .int .i64 (-1)) ?_ rfl rfl rfl rfl
    have hh := heap_alloc_new (w.alloc (.cells #[.int .i64 0, .int .i64 0, .int .i64 0, .int .i64 0] 61)) (.cells #[.int .i64 (-1), .int .i64 (-1), .int .i64 (-1), .int .i64 (-1)] 61)
    rw [show (w.alloc (.cells #[.int .i64 0, .int .i64 0, .int .i64 0, .int .i64 0] 61)).heap.size = w.heap.size + 1 by simp] at hh
    rw [hw1]; exact hh
  have HR1 : Hid (w1.heap[w.heap.size]? = some (.cells #[.int .i64 0, .int .i64 0, .int .i64 0, .int .i64 0] 61 (0, 0))) := by
    rw [hw1]; exact (Below.heap_alloc _ _ _ (by simp)).trans (heap_alloc_new _ _)
  clear hw1
  go_loopw [7] (fun j wr => ∃ k : Nat, k ≤ R.length ∧ j = .int .i64 k ∧ Hid (Four wr (w.heap.size + 1) (fun v => toldTo R s.regs s.vars i v k)) ∧ Hid (Below (w.heap.size + 1) w1 wr)) (fun j _ => R.length - (intOf j).toNat)
  case atStart => exact ⟨0, Nat.zero_le _, rfl, unhide HD1, Below.refl _ _⟩
  case round =>
    obtain ⟨k, hk, rfl, HD, HB⟩ := hrel
    have hBs := (unhide HB).size
    have HBr : Hid (Below w.heap.size w wr) := (unhide HB1).trans ((unhide HB).mono (by omega))
    have d39 := ((unhide HBr).cell (p := ⟨B, 39, none⟩) hB).trans c39
    have hDl : w.heap.size + 1 < wr.heap.size := (unhide HD).lt
    by_cases hlt : k < R.length
    case neg =>
      obtain rfl : k = R.length := by omega
      obtain ⟨x0, hx0⟩ : ∃ x, x = toldTo R s.regs s.vars i 0 R.length := ⟨_, rfl⟩
      obtain ⟨x1, hx1⟩ : ∃ x, x = toldTo R s.regs s.vars i 1 R.length := ⟨_, rfl⟩
      obtain ⟨x2, hx2⟩ : ∃ x, x = toldTo R s.regs s.vars i 2 R.length := ⟨_, rfl⟩
      obtain ⟨x3, hx3⟩ : ∃ x, x = toldTo R s.regs s.vars i 3 R.length := ⟨_, rfl⟩
      have t0 : wr.cell? ⟨w.heap.size + 1, 0, none⟩ = some (.int .i64 x0) := by rw [hx0]; exact (unhide HD).1 0 (by decide)
      have t1 : wr.cell? ⟨w.heap.size + 1, 1, none⟩ = some (.int .i64 x1) := by rw [hx1]; exact (unhide HD).1 1 (by decide)
      have t2 : wr.cell? ⟨w.heap.size + 1, 2, none⟩ = some (.int .i64 x2) := by rw [hx2]; exact (unhide HD).1 2 (by decide)
      have t3 : wr.cell? ⟨w.heap.size + 1, 3, none⟩ = some (.int .i64 x3) := by rw [hx3]; exact (unhide HD).1 3 (by decide)
      have HX := hide (And.intro hx0 (And.intro hx1 (And.intro hx2 hx3)))
      have hr := ((unhide HB).block w.heap.size (by omega)).trans (unhide HR1)
      have HRr := hide hr
      have n0 : wr.cell? ⟨w.heap.size, 0, none⟩ = some (.int .i64 0) := (cell_of_row wr _ 0 _ 61 (0, 0) hr).trans rfl
      have n1 : wr.cell? ⟨w.heap.size, 1, none⟩ = some (.int .i64 0) := (cell_of_row wr _ 1 _ 61 (0, 0) hr).trans rfl
      have n2 : wr.cell? ⟨w.heap.size, 2, none⟩ = some (.int .i64 0) := (cell_of_row wr _ 2 _ 61 (0, 0) hr).trans rfl
      have n3 : wr.cell? ⟨w.heap.size, 3, none⟩ = some (.int .i64 0) := (cell_of_row wr _ 3 _ 61 (0, 0) hr).trans rfl
      have nf : ∀ o, wr.frozen? ⟨w.heap.size, o, none⟩ = false := fun o => by simp [World.frozen?, hr]
      clear hx0 hx1 hx2 hx3 hr
      go_wp2_with fail
      refine bodyPost_ret (results_cell_row rfl _ _ w.heap.size 61 _ (0, 0) _ rfl (set4 (unhide HRr) _ _ _ _) Tryd.underlying61 rfl Tryd.size61) rfl ?_
      exact ⟨by rw [← (unhide HX).1, ← (unhide HX).2.1, ← (unhide HX).2.2.1, ← (unhide HX).2.2.2], below4 (unhide HBr) (Nat.le_refl _) _ _ _ _⟩
    obtain ⟨b, off, rfl, hb, hL⟩ : ∃ b off, ao = some ⟨b, off, none⟩ ∧ b < w.heap.size ∧ Lie w b off R := by
      rcases unhide HH with h | h
      · subst h; exact absurd hlt (by simp)
      · exact h
    obtain ⟨r, hr⟩ : ∃ r, r = rg R k := ⟨_, rfl⟩
    have hA := (hL k hlt).below (unhide HBr) hb
    have hfit := unhide HF k hlt
    rw [← hr] at hA hfit
    obtain ⟨c0, c1, c2, c3, c4⟩ := hA
    have HR := hide hr
    clear hr hL
    by_cases hcov : r.f ≤ (i : Int) ∧ (i : Int) < r.t
    case neg =>
      have HN : Hid (∀ v, toldTo R s.regs s.vars i v (k + 1) = toldTo R s.regs s.vars i v k) := fun v => toldTo_miss (fun h => hcov ⟨by have := h.2.1; rw [← unhide HR] at this; exact this, by have := h.2.2; rw [← unhide HR] at this; exact this⟩)
      rcases (show (i : Int) < r.f ∨ (r.f ≤ (i : Int) ∧ r.t ≤ (i : Int)) by omega) with h | ⟨h, h'⟩
      all_goals
        clear hcov hfit
        go_wp2_with fail
        go_roundw
        case rel => exact ⟨k + 1, by omega, by go_num, ((unhide HD).of_block (Below.heap_alloc _ _ _ hDl)).to (fun v _ => unhide HN v), (unhide HB).alloc (by omega) _⟩
        case measure => simp [intOf]; omega
    obtain ⟨g1, g2⟩ := hcov
    obtain ⟨v0, v3, ha⟩ := hfit
    obtain ⟨vn, hvn⟩ : ∃ vn : Nat, r.v = (vn : Int) := ⟨r.v.toNat, by omega⟩
    have KC := hide (fun (w : World) (h : StB w B s vo vs) => unhide KH r w h ha)
    obtain ⟨y, hy⟩ : ∃ y, y = heldE s.regs s.vars r := ⟨_, rfl⟩
    rw [← hy] at KC
    have HN : Hid (∀ v, v < 4 → toldTo R s.regs s.vars i v (k + 1) = if v = vn then y else toldTo R s.regs s.vars i v k) := fun v _ => by
      by_cases e : v = vn
      · rw [if_pos e, toldTo_hit (show Hits (rg R k) i v by rw [← unhide HR]; exact ⟨by rw [hvn, e], g1, g2⟩), ← unhide HR, hy]
      · rw [if_neg e, toldTo_miss (fun h => e (by have := h.1; rw [← unhide HR] at this; omega))]
    have hv4 : vn < 4 := by omega
    have cd := (unhide HD).1 vn hv4
    have fd := (unhide HD).2
    rw [hvn] at c0 KC
    have HY := hide hy
    clear hvn ha hy KH
    go_wp2_with fail
    obtain ⟨w5, hw5⟩ : ∃ w5, w5 = wr.alloc (.cells #[.int .i64 (vn : Int), .int .i64 r.f, .int .i64 r.t, .int .i64 r.k, .int .i64 r.a] 132) := ⟨_, rfl⟩
    rw [← hw5]
    have q : ∀ o, w5.cell? ⟨wr.heap.size, o, none⟩ = #[Value.int .i64 (vn : Int), .int .i64 r.f, .int .i64 r.t, .int .i64 r.k, .int .i64 r.a][o]? := fun o => by rw [hw5]; exact World.cell?_alloc_at (hn := rfl) ..
    have q0 : w5.cell? ⟨wr.heap.size, 0, none⟩ = some (.int .i64 (vn : Int)) := (q 0).trans rfl
    have q1 : w5.cell? ⟨wr.heap.size, 1, none⟩ = some (.int .i64 r.f) := (q 1).trans rfl
    have q2 : w5.cell? ⟨wr.heap.size, 2, none⟩ = some (.int .i64 r.t) := (q 2).trans rfl
    have q3 : w5.cell? ⟨wr.heap.size, 3, none⟩ = some (.int .i64 r.k) := (q 3).trans rfl
    have q4 : w5.cell? ⟨wr.heap.size, 4, none⟩ = some (.int .i64 r.a) := (q 4).trans rfl
    have HD5 : Hid (Four w5 (w.heap.size + 1) (fun v => toldTo R s.regs s.vars i v k)) := by rw [hw5]; exact (unhide HD).of_block (Below.heap_alloc _ _ _ hDl)
    have HB5 : Hid (Below (w.heap.size + 1) w1 w5) := by rw [hw5]; exact (unhide HB).alloc (by omega) _
    have HS5 : Hid (StB w5 B s vo vs) := by rw [hw5]; exact ((unhide HS).of_block ((unhide HBr).block B hB)).of_block (Below.heap_alloc _ _ _ (Nat.lt_of_lt_of_le hB (unhide HBr).size))
    have hz5 : wr.heap.size < w5.heap.size := by rw [hw5]; simp
    have cd5 := (unhide HD5).1 vn hv4
    have fd5 := (unhide HD5).2
    have hD5 : w.heap.size + 1 < w5.heap.size := by omega
    have hne : wr.heap.size ≠ w.heap.size + 1 := by omega
    have hk5 : ∀ (wq : World) (o : Nat) (z : Value), (wq.setCell ⟨w.heap.size + 1, vn, none⟩ z).cell? ⟨wr.heap.size, o, none⟩ = wq.cell? ⟨wr.heap.size, o, none⟩ := fun wq o z => World.cell?_setCell_other _ _ _ _ (fun e => by injection e with e1; omega)
    clear hw5 q c0 c1 c2 c3 c4 cd fd HD HB
    have v4 : (vn : Int) < 4 := by omega
    go_region_held3 (fun w' => w'.cell? ⟨wr.heap.size, 0, none⟩ = some (.int .i64 (vn : Int)) ∧ w'.cell? ⟨wr.heap.size, 1, none⟩ = some (.int .i64 r.f) ∧ w'.cell? ⟨wr.heap.size, 2, none⟩ = some (.int .i64 r.t) ∧ w'.cell? ⟨wr.heap.size, 3, none⟩ = some (.int .i64 r.k) ∧ w'.cell? ⟨wr.heap.size, 4, none⟩ = some (.int .i64 r.a)) (first | (simp [*]; done) | (refine ⟨?_, ?_, ?_, ?_, ?_⟩ <;> assumption))
      ((go_at_call 116; refine (unhide KC _ ?_).mono ?_; exact (unhide HS5).drew; rintro e w6 ⟨rfl, hb6⟩; have x0 := (hb6.cell (p := ⟨wr.heap.size, 0, none⟩) hz5).trans q0; have x1 := (hb6.cell (p := ⟨wr.heap.size, 1, none⟩) hz5).trans q1; have x2 := (hb6.cell (p := ⟨wr.heap.size, 2, none⟩) hz5).trans q2; have x3 := (hb6.cell (p := ⟨wr.heap.size, 3, none⟩) hz5).trans q3; have x4 := (hb6.cell (p := ⟨wr.heap.size, 4, none⟩) hz5).trans q4; have cd6 := (hb6.cell (p := ⟨w.heap.size + 1, vn, none⟩) hD5).trans cd5; have fd6 : w6.frozen? ⟨w.heap.size + 1, vn, none⟩ = false := (hb6.frozen (p := ⟨w.heap.size + 1, vn, none⟩) hD5).trans (fd5 vn); have HD6 := hide ((unhide HD5).of_block (hb6.block (w.heap.size + 1) hD5)); have HB6 := hide ((unhide HB5).drew.trans (hb6.mono (show w.heap.size + 1 ≤ w5.heap.size by omega))); clear hb6))
    go_wp2_with fail
    go_roundw
    case rel => exact ⟨k + 1, by omega, by go_num, (unhide HD6).set vn hv4 y (unhide HN), (unhide HB6).setCell (p := ⟨w.heap.size + 1, vn, none⟩) (Nat.le_refl _) _⟩
    case measure => simp [intOf]; omega
end Go.Proofs.YtoepcplbpochpaaDoor
