/-
  Ranges and tables: what they are, plainly; what leb.isRange, leb.mayFollow, lodgeref.one and lodgeref.pair answer.
-/
import Derived.Test.YtoepcplbpochpaaDoorPiece11
import Derived.Test.YtoepcplbpochpaaDoorPiece10
import Derived.BigQuiet
import Derived.Test.YtoepcplbpochpaaDoorPiece9
import Derived.Test.YtoepcplbpochpaaDoorPiece1

namespace Go.Proofs.YtoepcplbpochpaaDoor
open Go.RowKit

/-- A range. -/
structure Rg where
  v : Int
  f : Int
  t : Int
  k : Int
  a : Int

/-- A range as a value. -/
def Rg.cells (r : Rg) : List Value := [.int .i64 r.v, .int .i64 r.f, .int .i64 r.t, .int .i64 r.k, .int .i64 r.a]

def isRg (r : Rg) : Bool := decide (0 ≤ r.v ∧ r.v < 4 ∧ 0 ≤ r.f ∧ r.f < r.t ∧ r.t ≤ 164 ∧ 0 ≤ r.k ∧ r.k ≤ 2 ∧ 0 ≤ r.a ∧ r.a ≤ 65535)
def follows (x y : Rg) : Bool := if x.v ≠ y.v then decide (x.v < y.v) else if x.t ≠ y.f then decide (x.t < y.f) else decide (x.k ≠ y.k ∨ x.a ≠ y.a)

/-- May y stand somewhere behind x (near: right behind it)? -/
def behind (x y : Rg) (near : Bool) : Bool := if x.v ≠ y.v then decide (x.v < y.v) else if y.f < x.t then false else (!near || decide (x.t < y.f) || decide (x.k ≠ y.k) || decide (x.a ≠ y.a))

set_option maxHeartbeats 1000000 in
theorem isRange_any (r : Rg) (w : World) :
    Calls Tryd.prog 114 #[.agg #[.int .i64 r.v, .int .i64 r.f, .int .i64 r.t, .int .i64 r.k, .int .i64 r.a]] w fun e w' => e = .returned (.bool (isRg r)) ∧ Below w.heap.size w w' := by
  obtain ⟨v, f, t, k, a⟩ := r

  go_enter Tryd.func114, Tryd.ntmps114
  go_wp2
  all_goals (go_ret; refine ⟨ret_bool ?_, ((Below.refl _ _).alloc (Nat.le_refl _) _)⟩; rw [Bool.eq_iff_iff]; simp [isRg]; try omega)

set_option maxHeartbeats 1000000 in
theorem one_any (r : Rg) (w : World) :
    Calls Tryd.prog 133 #[.agg #[.int .i64 r.v, .int .i64 r.f, .int .i64 r.t, .int .i64 r.k, .int .i64 r.a]] w fun e w' => e = .returned (.bool (isRg r)) ∧ Below w.heap.size w w' := by
  obtain ⟨v, f, t, k, a⟩ := r

  go_enter Tryd.func133, Tryd.ntmps133
  go_wp2
  all_goals (go_ret; refine ⟨ret_bool ?_, ((Below.refl _ _).alloc (Nat.le_refl _) _)⟩; rw [Bool.eq_iff_iff]; simp [isRg]; try omega)

set_option maxHeartbeats 1000000 in
theorem mayFollow_any (r r2 : Rg) (w : World) :
    Calls Tryd.prog 115 #[.agg #[.int .i64 r.v, .int .i64 r.f, .int .i64 r.t, .int .i64 r.k, .int .i64 r.a], .agg #[.int .i64 r2.v, .int .i64 r2.f, .int .i64 r2.t, .int .i64 r2.k, .int .i64 r2.a]] w fun e w' => e = .returned (.bool (follows r r2)) ∧ Below w.heap.size w w' := by
  obtain ⟨v, f, t, k, a⟩ := r
  obtain ⟨v2, f2, t2, k2, a2⟩ := r2
  have S : Hid (follows ⟨v, f, t, k, a⟩ ⟨v2, f2, t2, k2, a2⟩ = decide (v < v2 ∨ v = v2 ∧ (t < f2 ∨ t = f2 ∧ (k ≠ k2 ∨ a ≠ a2)))) := by
    unfold Hid follows; rw [Bool.eq_iff_iff]; simp only [ne_eq]; split
    · simp; omega
    · split <;> simp <;> omega
  go_enter Tryd.func115, Tryd.ntmps115
  go_wp2
  all_goals (go_ret; refine ⟨ret_bool ?_, (((Below.refl _ _).alloc (Nat.le_refl _) _).alloc (by simp) _)⟩; rw [unhide S]; try simp only [bne_iff_ne, ne_eq, bne_eq_false_iff_eq] at *; rw [Bool.eq_iff_iff]; simp; try omega)

set_option maxHeartbeats 1000000 in
theorem pair_any (r r2 : Rg) (near : Bool) (w : World) :
    Calls Tryd.prog 134 #[.agg #[.int .i64 r.v, .int .i64 r.f, .int .i64 r.t, .int .i64 r.k, .int .i64 r.a], .agg #[.int .i64 r2.v, .int .i64 r2.f, .int .i64 r2.t, .int .i64 r2.k, .int .i64 r2.a], .bool near] w fun e w' => e = .returned (.bool (behind r r2 near)) ∧ Below w.heap.size w w' := by
  obtain ⟨v, f, t, k, a⟩ := r
  obtain ⟨v2, f2, t2, k2, a2⟩ := r2
  have S : Hid (behind ⟨v, f, t, k, a⟩ ⟨v2, f2, t2, k2, a2⟩ near = decide (v < v2 ∨ v = v2 ∧ (t ≤ f2 ∧ (near = false ∨ t < f2 ∨ k ≠ k2 ∨ a ≠ a2)))) := by
    unfold Hid behind; rw [Bool.eq_iff_iff]; cases near <;> simp only [ne_eq] <;> split
    · simp; omega
    · split <;> simp <;> omega
    · simp; omega
    · split <;> simp <;> omega
  cases near
  all_goals
    go_enter Tryd.func134, Tryd.ntmps134
    go_wp2
    all_goals (go_ret; refine ⟨ret_bool ?_, (((Below.refl _ _).alloc (Nat.le_refl _) _).alloc (by simp) _)⟩; rw [unhide S]; try simp only [bne_iff_ne, ne_eq, bne_eq_false_iff_eq] at *; rw [Bool.eq_iff_iff]; simp; try omega)

end Go.Proofs.YtoepcplbpochpaaDoor

/-
  What can be told, and where it is: lodge.canBeTold, lodge.placeOf, lodge.goesOn.
-/
namespace Go.Proofs.YtoepcplbpochpaaDoor
open Go.RowKit

def canB (f : Ft) (s : Nat → Bool) : Bool := f.k == 2 || (f.k == 3 && s f.a.toNat)
def placeK (f : Ft) (hs : Nat → Bool) : Int := if f.k = 2 then 2 else if hs f.a.toNat = true then 1 else 0
def placeA (f : Ft) (ha : Nat → Nat) : Int := if f.k = 2 then f.a else ha f.a.toNat

theorem below_drewN' {B : Nat} {w w' : World} (h : Below B w w') (n : Nat) : Below B w (w'.drewN n) := ⟨h.os, h.tape, h.output, h.size, h.block⟩
/-- The head of a function that takes a fact and a row. -/
theorem open_fr (w : World) (f : Ft) (n T : Nat) (c : Nat → Value) : ∃ w2, w2 = (w.alloc (.cells #[.int .i64 f.k, .int .i64 f.a] 151)).alloc (.cells (rowA n c) T) ∧ At2 w2 w.heap.size 0 f ∧ Hid (Rowd w2 (w.heap.size + 1) T n c) ∧ Hid (Below w.heap.size w w2) := by
  refine ⟨_, rfl, ?_, two_new _ _ _, ?_⟩
  · exact (at2_new w f _ rfl).below (below_alloc _ _) (by simp)
  · exact (below_alloc _ _).alloc (by simp) _

set_option maxRecDepth 100000 in
set_option maxHeartbeats 4000000 in
theorem can_any (f : Ft) (s : Nat → Bool) (w : World) (h3 : f.k = 3 → 0 ≤ f.a ∧ f.a < 12) :
    Calls Tryd.prog 102 #[.agg #[.int .i64 f.k, .int .i64 f.a], .agg (rowA 12 (setV s))] w fun e w' => e = .returned (.bool (canB f s)) ∧ Below w.heap.size w w' := by
  obtain ⟨w2, hw2, ⟨q0, q1⟩, HC, HB⟩ := open_fr w f 12 105 (setV s)
  have HW := hide hw2
  clear hw2
  go_enter Tryd.func102, Tryd.ntmps102
  go_upto_region 1 with fail
  rw [← unhide HW]
  by_cases h2 : f.k = 2
  · have HR := hide (show canB f s = true by unfold canB; rw [h2]; rfl)
    rw [h2] at q0
    clear h2
    go_wp2_with fail
    go_ret
    exact ⟨ret_bool (unhide HR).symm, unhide HB⟩
  have g2 : (f.k == 2) = false := by rw [beq_eq_false_iff_ne]; exact h2
  by_cases hk : f.k = 3
  · obtain ⟨a0, a1⟩ := h3 hk
    obtain ⟨an, han⟩ : ∃ an : Nat, f.a = an := ⟨f.a.toNat, by omega⟩
    have c := (unhide HC).cell (show an < 12 by omega)
    unfold setV at c
    have ai : (an : Int) < 12 := by omega
    have HR := hide (show canB f s = s an by unfold canB; rw [hk, han]; simp)
    rw [hk] at q0
    rw [han] at q1
    clear h2 hk han h3 a0 a1 g2
    go_wp2_with fail
    go_ret
    exact ⟨ret_bool (unhide HR).symm, unhide HB⟩
  · have g3 : (f.k == 3) = false := by rw [beq_eq_false_iff_ne]; exact hk
    have HR := hide (show canB f s = false by unfold canB; rw [g2, g3]; rfl)
    clear h2 hk h3
    go_wp2_with fail
    go_ret
    exact ⟨ret_bool (unhide HR).symm, unhide HB⟩

set_option maxRecDepth 100000 in
set_option maxHeartbeats 4000000 in
theorem place_any (f : Ft) (hs : Nat → Bool) (ha : Nat → Nat) (w : World) (h3 : f.k ≠ 2 → 0 ≤ f.a ∧ f.a < 12) :
    Calls Tryd.prog 103 #[.agg #[.int .i64 f.k, .int .i64 f.a], .agg (rowA 24 (homV hs ha))] w fun e w' => e = .returned (.tuple #[.int .i64 (placeK f hs), .int .i64 (placeA f ha)]) ∧ Below w.heap.size w w' := by
  obtain ⟨w2, hw2, ⟨q0, q1⟩, HC, HB⟩ := open_fr w f 24 113 (homV hs ha)
  have HW := hide hw2
  clear hw2
  go_enter Tryd.func103, Tryd.ntmps103
  go_upto_region 1 with fail
  rw [← unhide HW]
  by_cases h2 : f.k = 2
  · have HR := hide (show placeK f hs = 2 ∧ placeA f ha = f.a by unfold placeK placeA; rw [if_pos h2, if_pos h2]; exact ⟨rfl, rfl⟩)
    rw [h2] at q0
    clear h2
    go_wp2_with fail
    go_quiet (fail)
    go_wp2_with fail
    go_ret2
    exact ⟨ret2 (unhide HR).1.symm (unhide HR).2.symm, below_drewN' (unhide HB) _⟩
  have g2 : (f.k == 2) = false := by rw [beq_eq_false_iff_ne]; exact h2
  obtain ⟨a0, a1⟩ := h3 h2
  obtain ⟨an, han⟩ : ∃ an : Nat, f.a = an := ⟨f.a.toNat, by omega⟩
  have c0 := hom_s (unhide HC) (r := an) (by omega)
  have c1 := hom_a (unhide HC) (r := an) (by omega)
  have ai : (an : Int) < 12 := by omega
  obtain ⟨b, hb⟩ : ∃ b, b = hs an := ⟨_, rfl⟩
  rw [← hb] at c0
  rw [han] at q1
  cases b
  · have HR := hide (show placeK f hs = 0 ∧ placeA f ha = ha an by unfold placeK placeA; rw [if_neg h2, if_neg h2, han, Int.toNat_natCast, ← hb]; exact ⟨rfl, rfl⟩)
    clear h2 hb han h3 a0 a1
    go_wp2_with fail
    go_quiet (fail)
    go_wp2_with fail
    go_ret2
    exact ⟨ret2 (unhide HR).1.symm (unhide HR).2.symm, below_drewN' (unhide HB) _⟩
  · have HR := hide (show placeK f hs = 1 ∧ placeA f ha = ha an by unfold placeK placeA; rw [if_neg h2, if_neg h2, han, Int.toNat_natCast, ← hb]; exact ⟨rfl, rfl⟩)
    clear h2 hb han h3 a0 a1
    go_wp2_with fail
    go_quiet (fail)
    go_wp2_with fail
    go_ret2
    exact ⟨ret2 (unhide HR).1.symm (unhide HR).2.symm, below_drewN' (unhide HB) _⟩

/-- Does a range go on with another? -/
def goesB (a b : Rg) : Bool := a.v == b.v && a.t == b.f && a.k == b.k && a.a == b.a
set_option maxRecDepth 100000 in
set_option maxHeartbeats 4000000 in
theorem goesOn_any (a b : Rg) (w : World) :
    Calls Tryd.prog 132 #[.agg #[.int .i64 a.v, .int .i64 a.f, .int .i64 a.t, .int .i64 a.k, .int .i64 a.a], .agg #[.int .i64 b.v, .int .i64 b.f, .int .i64 b.t, .int .i64 b.k, .int .i64 b.a]] w fun e w' => e = .returned (.bool (goesB a b)) ∧ Below w.heap.size w w' := by
  have HG := hide (show goesB a b = (a.v == b.v && a.t == b.f && a.k == b.k && a.a == b.a) from rfl)
  obtain ⟨v1, f1, t1, k1, a1⟩ := a
  obtain ⟨v2, f2, t2, k2, a2⟩ := b
  simp only at HG ⊢
  by_cases h1 : v1 = v2
  case neg =>
    have g1 : (v1 == v2) = false := by rw [beq_eq_false_iff_ne]; exact h1
    rw [g1] at HG
    clear h1
    go_enter Tryd.func132, Tryd.ntmps132
    go_wp2
    go_ret
    exact ⟨ret_bool (by rw [unhide HG]; rfl), ((Below.refl _ _).alloc (Nat.le_refl _) _).alloc (by simp) _⟩
  by_cases h2 : t1 = f2
  case neg =>
    have g2 : (t1 == f2) = false := by rw [beq_eq_false_iff_ne]; exact h2
    rw [g2] at HG
    subst h1
    clear h2
    go_enter Tryd.func132, Tryd.ntmps132
    go_wp2
    go_ret
    exact ⟨ret_bool (by rw [unhide HG]; simp), ((Below.refl _ _).alloc (Nat.le_refl _) _).alloc (by simp) _⟩
  by_cases h3 : k1 = k2
  case neg =>
    have g3 : (k1 == k2) = false := by rw [beq_eq_false_iff_ne]; exact h3
    rw [g3] at HG
    subst h1 h2
    clear h3
    go_enter Tryd.func132, Tryd.ntmps132
    go_wp2
    go_ret
    exact ⟨ret_bool (by rw [unhide HG]; simp), ((Below.refl _ _).alloc (Nat.le_refl _) _).alloc (by simp) _⟩
  subst h1 h2 h3
  go_enter Tryd.func132, Tryd.ntmps132
  go_wp2
  go_ret
  exact ⟨ret_bool (by rw [unhide HG]; simp), ((Below.refl _ _).alloc (Nat.le_refl _) _).alloc (by simp) _⟩
end Go.Proofs.YtoepcplbpochpaaDoor

/-
  Plain mathematics: what the document's own search for the last to say something of a variable keeps to, and what follows where a value must be told.
-/
namespace Go.Proofs.YtoepcplbpochpaaDoor
open Go.RowKit

/-- The search backwards, while the place z is looked at and the first m instructions have been looked at for it (m = 0 and z of the list: none is). -/
structure Last (L : List In4) (v : Int) (i : Nat) (on been : Nat → Bool) (todo said passed : List Int) (bare : Bool) (z : Int) (m : Nat) : Prop where
  sd : ∀ y ∈ said, ∃ k : Nat, y = k ∧ k < L.length ∧ sayB (inAt L k) v = true
  ps : ∀ y ∈ passed, ∃ k : Nat, y = k ∧ k < L.length ∧ sayB (inAt L k) v = false
  bn : ∀ k, been k = true → (k : Int) ∈ said ∨ (k : Int) ∈ passed
  cl : ∀ j : Nat, (j = i ∨ (j : Int) ∈ passed) → (j : Int) ∈ todo ∨ (∀ k, k < L.length → on k = true → Nx L k j → been k = true) ∨ ((j : Int) = z ∧ ∀ k, k < m → on k = true → Nx L k j → been k = true)
  br : bare = false → i ≠ 0 ∧ (0 : Int) ∉ passed
theorem Last.begin {L : List In4} {v : Int} {i : Nat} {on : Nat → Bool} {bare : Bool} (hb : bare = false → i ≠ 0) (z : Int) : Last L v i on (fun _ => false) [(i : Int)] [] [] bare z L.length := by
  refine ⟨fun y h => absurd h List.not_mem_nil, fun y h => absurd h List.not_mem_nil, fun k h => (by cases h), fun j hj => ?_, fun h => ⟨hb h, List.not_mem_nil⟩⟩
  rcases hj with rfl | hj
  · exact .inl (List.mem_singleton.2 rfl)
  · cases hj
/-- All have been looked at. -/
theorem Last.whole {L : List In4} {v : Int} {i : Nat} {on been : Nat → Bool} {todo said passed : List Int} {bare : Bool} {z : Int} (h : Last L v i on been todo said passed bare z L.length) (j : Nat) (hj : j = i ∨ (j : Int) ∈ passed) : (j : Int) ∈ todo ∨ ∀ k, k < L.length → on k = true → Nx L k j → been k = true := by
  rcases h.cl j hj with e | e | ⟨_, e⟩
  · exact .inl e
  · exact .inr e
  · exact .inr e
/-- One is taken off the list. -/
theorem Last.pop {L : List In4} {v : Int} {i : Nat} {on been : Nat → Bool} {todo said passed : List Int} {bare : Bool} {z y : Int} (h : Last L v i on been (todo ++ [y]) said passed bare z L.length) : Last L v i on been todo said passed bare y 0 := by
  refine ⟨h.sd, h.ps, h.bn, fun j hj => ?_, h.br⟩
  rcases h.whole j hj with e | e
  · rcases List.mem_append.1 e with e | e
    · exact .inl e
    · exact .inr (.inr ⟨List.mem_singleton.1 e, fun k hk => absurd hk (Nat.not_lt_zero _)⟩)
  · exact .inr (.inl e)
/-- An instruction that doesn't lead there, or that was seen already. -/
theorem Last.skip {L : List In4} {v : Int} {i : Nat} {on been : Nat → Bool} {todo said passed : List Int} {bare : Bool} {z : Int} {m : Nat} (h : Last L v i on been todo said passed bare z m) (hs : ∀ j : Nat, (j : Int) = z → on m = true → Nx L m j → been m = true) : Last L v i on been todo said passed bare z (m + 1) :=
  ⟨h.sd, h.ps, h.bn, fun j hj => by
    rcases h.cl j hj with e | e | ⟨e, g⟩
    · exact .inl e
    · exact .inr (.inl e)
    · refine .inr (.inr ⟨e, fun k hk ho hn => ?_⟩)
      by_cases ek : k = m
      · subst ek; exact hs j e ho hn
      · exact g k (by omega) ho hn, h.br⟩
theorem been_or {been : Nat → Bool} {m k : Nat} (h : been k = true) : (k == m || been k) = true := by rw [h, Bool.or_true]
/-- An instruction that says something. -/
theorem Last.say {L : List In4} {v : Int} {i : Nat} {on been : Nat → Bool} {todo said passed : List Int} {bare : Bool} {z : Int} {m : Nat} (h : Last L v i on been todo said passed bare z m) (hm : m < L.length) (hs : sayB (inAt L m) v = true) : Last L v i on (fun k => k == m || been k) todo (said ++ [(m : Int)]) passed bare z (m + 1) := by
  refine ⟨fun y hy => ?_, h.ps, fun k hk => ?_, fun j hj => ?_, h.br⟩
  · rcases List.mem_append.1 hy with hy | hy
    · exact h.sd y hy
    · exact ⟨m, List.mem_singleton.1 hy, hm, hs⟩
  · rw [Bool.or_eq_true, beq_iff_eq] at hk
    rcases hk with rfl | hk
    · exact .inl (List.mem_append.2 (.inr (List.mem_singleton.2 rfl)))
    · rcases h.bn k hk with e | e
      · exact .inl (List.mem_append.2 (.inl e))
      · exact .inr e
  · rcases h.cl j hj with e | e | ⟨e, g⟩
    · exact .inl e
    · exact .inr (.inl (fun k a b c => been_or (e k a b c)))
    · refine .inr (.inr ⟨e, fun k hk ho hn => ?_⟩)
      by_cases ek : k = m
      · subst ek; show (k == k || been k) = true; rw [beq_self_eq_true]; rfl
      · exact been_or (g k (by omega) ho hn)
/-- An instruction that is passed. -/
theorem Last.pass {L : List In4} {v : Int} {i : Nat} {on been : Nat → Bool} {todo said passed : List Int} {bare : Bool} {z : Int} {m : Nat} (h : Last L v i on been todo said passed bare z m) (hm : m < L.length) (hs : sayB (inAt L m) v = false) {bare' : Bool} (hb : bare' = false → bare = false ∧ m ≠ 0) : Last L v i on (fun k => k == m || been k) (todo ++ [(m : Int)]) said (passed ++ [(m : Int)]) bare' z (m + 1) := by
  refine ⟨h.sd, fun y hy => ?_, fun k hk => ?_, fun j hj => ?_, fun hb' => ?_⟩
  · rcases List.mem_append.1 hy with hy | hy
    · exact h.ps y hy
    · exact ⟨m, List.mem_singleton.1 hy, hm, hs⟩
  · rw [Bool.or_eq_true, beq_iff_eq] at hk
    rcases hk with rfl | hk
    · exact .inr (List.mem_append.2 (.inr (List.mem_singleton.2 rfl)))
    · rcases h.bn k hk with e | e
      · exact .inl e
      · exact .inr (List.mem_append.2 (.inl e))
  · have old : (j = i ∨ (j : Int) ∈ passed) → _ := fun hj' => h.cl j hj'
    have new : (j : Int) = (m : Int) → (j : Int) ∈ todo ++ [(m : Int)] := fun e => List.mem_append.2 (.inr (List.mem_singleton.2 e))
    have go : ((j : Int) ∈ todo ∨ (∀ k, k < L.length → on k = true → Nx L k j → been k = true) ∨ ((j : Int) = z ∧ ∀ k, k < m → on k = true → Nx L k j → been k = true)) → ((j : Int) ∈ todo ++ [(m : Int)] ∨ (∀ k, k < L.length → on k = true → Nx L k j → (k == m || been k) = true) ∨ ((j : Int) = z ∧ ∀ k, k < m + 1 → on k = true → Nx L k j → (k == m || been k) = true)) := by
      rintro (e | e | ⟨e, g⟩)
      · exact .inl (List.mem_append.2 (.inl e))
      · exact .inr (.inl (fun k a b c => been_or (e k a b c)))
      · refine .inr (.inr ⟨e, fun k hk ho hn => ?_⟩)
        by_cases ek : k = m
        · subst ek; rw [beq_self_eq_true]; rfl
        · exact been_or (g k (by omega) ho hn)
    rcases hj with hj | hj
    · exact go (old (.inl hj))
    · rcases List.mem_append.1 hj with hj | hj
      · exact go (old (.inr hj))
      · exact .inl (new (List.mem_singleton.1 hj))
  · obtain ⟨b1, b2⟩ := hb hb'
    obtain ⟨c1, c2⟩ := h.br b1
    refine ⟨c1, fun e => ?_⟩
    rcases List.mem_append.1 e with e | e
    · exact c2 e
    · have := List.mem_singleton.1 e; omega
/-- What the search ends with. -/
structure LastEnd (L : List In4) (v : Int) (i : Nat) (on : Nat → Bool) (said passed : List Int) (bare : Bool) : Prop where
  on0 : on 0 = true
  onx : ∀ j k, on j = true → Nx L j k → on k = true
  sd : ∀ y ∈ said, ∃ k : Nat, y = k ∧ k < L.length ∧ sayB (inAt L k) v = true
  ps : ∀ y ∈ passed, ∃ k : Nat, y = k ∧ k < L.length ∧ sayB (inAt L k) v = false
  cl : ∀ k j : Nat, k < L.length → on k = true → Nx L k j → (j = i ∨ (j : Int) ∈ passed) → (k : Int) ∈ said ∨ (k : Int) ∈ passed
  br : bare = false → i ≠ 0 ∧ (0 : Int) ∉ passed
theorem Last.ends {L : List In4} {v : Int} {i : Nat} {on been : Nat → Bool} {said passed : List Int} {bare : Bool} {z : Int} (h : Last L v i on been [] said passed bare z L.length) (h0 : on 0 = true) (hx : ∀ j k, on j = true → Nx L j k → on k = true) : LastEnd L v i on said passed bare := by
  refine ⟨h0, hx, h.sd, h.ps, fun k j hk ho hn hj => ?_, h.br⟩
  rcases h.whole j hj with e | e
  · cases e
  · exact h.bn k (e k hk ho hn)
theorem sayB_iff {x : In4} {v : Int} : sayB x v = true ↔ (12 ≤ x.op ∧ x.op ≤ 14) ∧ x.d = v := by
  unfold sayB
  rw [Bool.and_eq_true, Bool.and_eq_true, decide_eq_true_iff, decide_eq_true_iff, beq_iff_eq]
/-- Where a value must be told, it can be told. -/
theorem must_can {L : List In4} (hL : Inside L) {v i : Nat} {on : Nat → Bool} {said passed : List Int} (h : LastEnd L v i on said passed false) {o a : Int} (hs : ∀ k : Nat, (k : Int) ∈ said → (inAt L k).op = o ∧ (inAt L k).a = a) (hk : o = 13 ∨ (o = 12 ∧ (∀ k : Nat, (k : Int) ∈ passed → wrB (inAt L k) a = false) ∧ liveB L i a.toNat = true)) (hi : (factB L i v).k ≠ 0) : canB (factB L i v) (liveB L i) = true := by
  obtain ⟨b1, b2⟩ := h.br rfl
  have hw : MustW L v i (fun k => on k = true) (fun k => (k : Int) ∈ passed) o a := by
    refine ⟨h.on0, fun k j _ ho hn => h.onx k j ho hn, b1, b2, fun k j hk' ho hn hj => ?_, ?_⟩
    · rcases h.cl k j hk' ho hn hj with e | e
      · obtain ⟨k', e1, _, e2⟩ := h.sd _ e
        have : k' = k := by omega
        subst this
        obtain ⟨s1, s2⟩ := sayB_iff.1 e2
        exact .inl ⟨s1, s2, (hs _ e).1, (hs _ e).2⟩
      · obtain ⟨k', e1, _, e2⟩ := h.ps _ e
        have : k' = k := by omega
        subst this
        exact .inr ⟨fun g => (by rw [sayB_iff.2 g] at e2; cases e2), e⟩
    · rcases hk with e | ⟨e, g, _⟩
      · exact .inl e
      · exact .inr ⟨e, g⟩
  rw [must_fact hL hw hi]
  unfold canB
  rcases hk with rfl | ⟨rfl, _, g⟩
  · rfl
  · show ((3 : Int) == 2 || ((3 : Int) == 3 && liveB L i a.toNat)) = true
    rw [g]; rfl
end Go.Proofs.YtoepcplbpochpaaDoor

/-
  What the document's own search for the last to say something keeps to, in memory: three lists of numbers that it owns, the row of what it has been at.
-/
namespace Go.Proofs.YtoepcplbpochpaaDoor
open Go.RowKit

/-- Three lists of numbers, each in a block of its own. -/
structure Three (w : World) (base : Nat) (x y z : List Int) (vx vy vz : Value) : Prop where
  ox : w.ownsRow base 3 1 vx x.length (intCells x)
  oy : w.ownsRow base 3 1 vy y.length (intCells y)
  oz : w.ownsRow base 3 1 vz z.length (intCells z)
  xy : ∀ g, vx.ownBlock = some g → vy.ownBlock ≠ some g
  xz : ∀ g, vx.ownBlock = some g → vz.ownBlock ≠ some g
  yz : ∀ g, vy.ownBlock = some g → vz.ownBlock ≠ some g
theorem Three.rot {w : World} {base : Nat} {x y z : List Int} {vx vy vz : Value} (h : Three w base x y z vx vy vz) : Three w base y z x vy vz vx :=
  ⟨h.oy, h.oz, h.ox, h.yz, fun g a b => h.xy g b a, fun g a b => h.xz g b a⟩
theorem Three.keep {S : Nat → Prop} {w w' : World} {base : Nat} {x y z : List Int} {vx vy vz : Value} (h : Three w base x y z vx vy vz) (hk : Keep S w w') (hS : ∀ g, base ≤ g → ¬ S g) : Three w' base x y z vx vy vz :=
  ⟨own_keep h.ox hk (fun g hg => hS g (own_in h.ox g hg).1), own_keep h.oy hk (fun g hg => hS g (own_in h.oy g hg).1), own_keep h.oz hk (fun g hg => hS g (own_in h.oz g hg).1), h.xy, h.xz, h.yz⟩
theorem Three.push {w wz w3 : World} {base : Nat} {x y z : List Int} {vx vy vz : Value} {k : Int} {g cap B : Nat} (h : Three w base x y z vx vy vz) (hz : Keep (fun _ => False) w wz) (hg : wz.grownBy w3 vx.ownBlock) (hB : w.heap.size ≤ B)
    (hown : w3.ownsRow base 3 1 (.slice (some ⟨g, 0, none⟩) (x.length + 1) cap) (x.length + 1) (intCells x ++ [.int .i64 k])) (hat : vx.ownBlock = some g ∨ g = B) :
    Three w3 base (x ++ [k]) y z (.slice (some ⟨g, 0, none⟩) (x.length + 1) cap) vy vz ∧ Keep (fun i => base ≤ i) w w3 := by
  have hk3 : Keep (fun i => some i = vx.ownBlock) w w3 := (hz.mono (fun _ _ h => h.elim)).grown hg (fun i e _ => e.symm)
  have far : ∀ {v : Value}, (∀ q, v.ownBlock = some q → q < w.heap.size) → (∀ q, vx.ownBlock = some q → v.ownBlock ≠ some q) → ∀ q, (Value.slice (some ⟨g, 0, none⟩) (x.length + 1) cap).ownBlock = some q → v.ownBlock ≠ some q := fun hl ha q hq e => by
    have hqg : g = q := by injection hq
    subst hqg
    rcases hat with hat | hat
    · exact ha g hat e
    · have := hl g e; omega
  refine ⟨⟨by rw [List.length_append, intCells_snoc]; exact hown, own_keep h.oy hk3 (fun q hq e => h.xy q e.symm hq), own_keep h.oz hk3 (fun q hq e => h.xz q e.symm hq), far (fun q hq => (own_in h.oy q hq).2) h.xy, far (fun q hq => (own_in h.oz q hq).2) h.xz, h.yz⟩, hk3.mono (fun i _ e => (own_in h.ox i e.symm).1)⟩
theorem Three.pop {w : World} {base : Nat} {t y z : List Int} {a : Int} {vx vy vz : Value} (h : Three w base (t ++ [a]) y z vx vy vz) :
    ∃ g cap, vx = .slice (some ⟨g, 0, none⟩) (t.length + 1) cap ∧ t.length + 1 ≤ cap ∧ w.cell? ⟨g, t.length, none⟩ = some (.int .i64 a) ∧ Three w base t y z (.slice (some ⟨g, 0, none⟩) t.length cap) vy vz := by
  obtain ⟨g, cap, rfl, _, _, hc, hz, ho⟩ := todo_last h.ox
  exact ⟨g, cap, rfl, hc, hz, ho, h.oy, h.oz, h.xy, h.xz, h.yz⟩

structure LastB (w wr : World) (P R V : Int) (sl : Value) (n Bo Bn : Nat) (on been : Nat → Bool) (todo said passed : List Int) (vt vs vp : Value) : Prop where
  rows : Three wr (Bn + 1) todo said passed vt vs vp
  row : Rowd wr Bn 4 n (fun k => .bool (been k))
  onr : Rowd wr Bo 4 n (fun k => .bool (on k))
  p : ProgB wr w.heap.size P R V sl
  bel : Below w.heap.size w wr
  l1 : w.heap.size < Bo
  l2 : Bo < Bn
section
variable {w wr w' : World} {P R V : Int} {sl : Value} {n Bo Bn : Nat} {on been : Nat → Bool} {todo said passed : List Int} {vt vs vp : Value}
theorem LastB.keep {S : Nat → Prop} (h : LastB w wr P R V sl n Bo Bn on been todo said passed vt vs vp) (hk : Keep S wr w') (hS : ∀ i, S i → Bn + 1 ≤ i) {todo' said' passed' : List Int} {vt' vs' vp' : Value} (h3 : Three w' (Bn + 1) todo' said' passed' vt' vs' vp') : LastB w w' P R V sl n Bo Bn on been todo' said' passed' vt' vs' vp' := by
  have := h.l1
  have := h.l2
  exact ⟨h3, h.row.keep hk (fun e => by have := hS _ e; omega), h.onr.keep hk (fun e => by have := hS _ e; omega), h.p.keep hk (fun e => by have := hS _ e; omega), h.bel.trans (hk.below h.bel.size (fun k hk e => by have := hS _ e; omega)), h.l1, h.l2⟩
theorem LastB.below (h : LastB w wr P R V sl n Bo Bn on been todo said passed vt vs vp) (hb : Below wr.heap.size wr w') : LastB w w' P R V sl n Bo Bn on been todo said passed vt vs vp :=
  h.keep (Keep.of_below hb (fun _ => False)) (fun _ h => h.elim) (h.rows.keep (Keep.of_below hb (fun _ => False)) (fun _ _ h => h))
theorem LastB.at (h : LastB w wr P R V sl n Bo Bn on been todo said passed vt vs vp) (j : Nat) : LastB w (wr.setCell ⟨Bn, j, none⟩ (.bool true)) P R V sl n Bo Bn on (fun k => k == j || been k) todo said passed vt vs vp := by
  have hk : Keep (fun k => k = Bn) wr (wr.setCell ⟨Bn, j, none⟩ (.bool true)) := keep_set (Keep.refl _ _) _ _
  have := h.l1
  have := h.l2
  exact ⟨h.rows.keep hk (fun g hg e => by omega), been_set h.row, h.onr.keep hk (by omega), h.p.keep hk (by omega), h.bel.trans (hk.below h.bel.size (fun k hk e => by omega)), h.l1, h.l2⟩
theorem LastB.measure (h : LastB w wr P R V sl n Bo Bn on been todo said passed vt vs vp) : newC (beenW wr Bn) n + slLen vt = newC been n + todo.length := by
  rw [newC_row h.row n (Nat.le_refl _)]
  obtain ⟨ao, cap, hv, _⟩ := own_heldI h.rows.ox
  rw [hv]; rfl
theorem LastB.big (h : LastB w wr P R V sl n Bo Bn on been todo said passed vt vs vp) : Bn + 1 ≤ wr.heap.size := h.row.lt
end
/-- What the search leaves behind. -/
def LastPost (w : World) (L : List In4) (v i : Nat) (e : Ending) (w' : World) : Prop :=
  ∃ (on : Nat → Bool) (said passed : List Int) (bare : Bool) (so : Option Addr) (sc : Nat) (po : Option Addr) (pc : Nat), e = .returned (.tuple #[.slice so said.length sc, .slice po passed.length pc, .bool bare]) ∧ HeldI w' so said ∧ HeldI w' po passed ∧ LastEnd L v i on said passed bare ∧ said.length ≤ 40 ∧ passed.length ≤ 40 ∧ Below w.heap.size w w'
end Go.Proofs.YtoepcplbpochpaaDoor

/-
  The last to say something of a variable: lodgeref.Lasts.
-/
namespace Go.Proofs.YtoepcplbpochpaaDoor
open Go.RowKit

theorem take_mem_succ {xs : List Int} {m : Nat} {z : Int} (hm : m < xs.length) : z ∈ xs.take (m + 1) ↔ z ∈ xs.take m ∨ z = nth xs m := by
  rw [List.take_add_one, List.mem_append]
  unfold nth
  rw [List.getD_eq_getElem?_getD, List.getElem?_eq_getElem hm]
  show _ ∨ z ∈ [xs[m]] ↔ _
  rw [List.mem_singleton]; rfl
/-- The world at the head of the search. -/
theorem last_start {w w1 w2 : World} {P R V : Int} {sl : Value} {n Bo : Nat} {on : Nat → Bool} (hz1 : w1.heap.size = w.heap.size + 1) (hBo : Bo = w1.heap.size + 1) (hp1 : ProgB w1 w.heap.size P R V sl) (hb1 : Below w.heap.size w w1) (hb2 : Below w1.heap.size w1 w2) (hr : Rowd w2 Bo 4 n (fun k => .bool (on k))) (i : Nat) :
    ∃ w3 w4, w3 = w2.alloc (.cells (rowA n (fun _ => .bool false)) 4) ∧ w4 = w3.alloc (.cells #[.int .i64 (i : Int)] 3) ∧ w3.heap.size = w2.heap.size + 1 ∧ Hid (LastB w w4 P R V sl n Bo w2.heap.size on (fun _ => false) [(i : Int)] [] [] (.slice (some ⟨w2.heap.size + 1, 0, none⟩) 1 1) (.slice none 0 0) (.slice none 0 0)) := by
  refine ⟨_, _, rfl, rfl, by simp, ?_⟩
  have b3 := below_alloc w2 (.cells (rowA n (fun _ => .bool false)) 4)
  have b4 := below_alloc (w2.alloc (.cells (rowA n (fun _ => .bool false)) 4)) (.cells #[.int .i64 (i : Int)] 3)
  have hlt := hr.lt
  have hs2 := hb2.size
  refine ⟨⟨?_, World.ownsRow_nil _ _ _ _, World.ownsRow_nil _ _ _ _, fun g _ e => (by cases e), fun g _ e => (by cases e), fun g e => (by cases e)⟩, (rowd_alloc w2 4 n _).below b4, (hr.below b3).below b4, ((hp1.below hb2).below b3).below b4, (((hb1.trans (hb2.mono (by omega))).alloc (by omega) _).alloc (by simp; omega) _), by omega, hlt⟩
  have := todo_new (w2.alloc (.cells (rowA n (fun _ => .bool false)) 4)) (i : Int)
  rw [show (w2.alloc (.cells (rowA n (fun _ => .bool false)) 4)).heap.size = w2.heap.size + 1 by simp] at this
  exact this

set_option maxRecDepth 100000 in
set_option maxHeartbeats 8000000 in
theorem lasts_any (P R V : Int) (L : List In4) (ao : Option Addr) (cap i v : Nat) (hp : RightP P R V L) (w : World) (hH : HeldIns w ao L) :
    Calls Tryd.prog 75 #[.agg #[.int .i64 P, .int .i64 R, .int .i64 V, .slice ao L.length cap], .int .i64 i, .int .i64 v] w (LastPost w L v i) := by
  have hn40 := hp.n40
  obtain ⟨b, off, rfl, hb, hI⟩ := held_at hH hp.n1
  obtain ⟨i0, hi0, hz0, hz1', hz2'⟩ := info_parts Tryd.info3
  have HI := hide hI
  have HH := hide hH
  have KN := hide nexts_any
  have KS := hide says_any
  obtain ⟨w1, hw1, HP1, HL1, hz1⟩ := pbox w P R V (.slice (some ⟨b, off, none⟩) L.length cap)
  have KR := hide (reached_any P R V L (some ⟨b, off, none⟩) cap hp w1 (hH.below (unhide HL1)))
  unfold ReachPost at KR
  obtain ⟨Bo, hBo⟩ : ∃ Bo, Bo = w1.heap.size + 1 := ⟨_, rfl⟩
  rw [← hBo] at KR
  have HW1 := hide hw1
  have HBO := hide hBo
  have p0 := (unhide HP1).c0
  have p1 := (unhide HP1).c1
  have p2 := (unhide HP1).c2
  have p3 := (unhide HP1).c3
  obtain ⟨b0, hb0⟩ : ∃ b0, ((i : Int) == 0) = b0 := ⟨_, rfl⟩
  have HBB : Hid (b0 = false → i ≠ 0) := fun h e => by rw [h, e] at hb0; cases hb0
  clear hI hH hp hw1 hBo
  go_enter Tryd.func75, Tryd.ntmps75
  go_upto_region 1 with fail
  rw [← unhide HW1]
  go_wp2_with fail
  refine (unhide KR).mono ?_
  rintro _ w2 ⟨on, rfl, hr2, h0, hx, hb2⟩
  have q3 := ((unhide HP1).below hb2).c3
  obtain ⟨w3, w4, hw3, hw4, hz3, HB4⟩ := last_start hz1 (unhide HBO) (unhide HP1) (unhide HL1) hb2 hr2 i
  have hmk := makeB L.length (by omega) w2
  rw [← hw3] at hmk
  have HW4 := hide hw4
  have HON := hide (And.intro h0 hx)
  clear p0 p1 p2 p3 hr2 h0 hx hw3 hw4 HP1 HL1 KR HBO
  go_upto_region 3 with fail
  clear q3 hmk hb2
  go_upto_region 4 with fail
  rw [← unhide HW4]
  clear HW4
  obtain ⟨Bn, hBn⟩ : ∃ Bn, Bn = w2.heap.size := ⟨_, rfl⟩
  rw [← hBn] at HB4 ⊢
  clear hBn
  go_upto_region 6 with fail
  go_loopw [11, 12, 13, 14] (fun vt vb vs vp wr => ∃ been todo said passed bare z, vb = .bool bare ∧ Hid (Last L v i on been todo said passed bare z L.length) ∧ Hid (LastB w wr P R V (.slice (some ⟨b, off, none⟩) L.length cap) L.length Bo Bn on been todo said passed vt vs vp) ∧ said.length + passed.length + newC been L.length ≤ L.length ∧ todo.length + newC been L.length ≤ L.length + 1) (fun vt _ _ _ wr => newC (beenW wr Bn) L.length + slLen vt)
  case atStart => exact ⟨_, _, _, _, b0, 0, rfl, Last.begin (unhide HBB) 0, unhide HB4, by have := newC_low (been := fun _ => false) L.length; simpa using this, by have := newC_low (been := fun _ => false) L.length; show 1 + _ ≤ _; omega⟩
  case round =>
    clear HB4
    obtain ⟨been, todo, said, passed, bare, z0, rfl, HS, HB, hf1, hf2⟩ := hrel
    have HM := hide (unhide HB).measure
    rcases list_last todo with rfl | ⟨t, z, rfl⟩
    · obtain ⟨ta, tc, rfl, _, _⟩ := own_heldI (unhide HB).rows.ox
      obtain ⟨sa, sc, rfl, hsa, _⟩ := own_heldI (unhide HB).rows.oy
      obtain ⟨pa, pc, rfl, hpa, _⟩ := own_heldI (unhide HB).rows.oz
      go_wp2_with fail
      go_returns
      exact ⟨on, said, passed, bare, sa, sc, pa, pc, rfl, hsa, hpa, (unhide HS).ends (unhide HON).1 (unhide HON).2, by omega, by omega, (unhide HB).bel⟩
    · rw [List.length_append, List.length_singleton] at hf2
      obtain ⟨g, tc, rfl, hcap, hz, h3⟩ := (unhide HB).rows.pop
      have HS1 := hide (unhide HS).pop
      have HB1 : Hid (LastB w wr P R V (.slice (some ⟨b, off, none⟩) L.length cap) L.length Bo Bn on been t said passed (.slice (some ⟨g, 0, none⟩) t.length tc) u13 u14) := (unhide HB).keep (Keep.refl (fun _ => False) _) (fun _ h => h.elim) h3
      have htl : t.length ≤ 100 := by omega
      have HM1 : Hid (newC been L.length + t.length + 1 = newC (beenW wr Bn) L.length + slLen (.slice (some ⟨g, 0, none⟩) (t.length + 1) tc)) := by
        have := unhide HM
        rw [List.length_append, List.length_singleton] at this
        unfold Hid; omega
      clear h3 HS HB HM
      go_upto_region 10 with fail
      clear hz hcap
      obtain ⟨wo, rfl⟩ : ∃ wo, wo = wr := ⟨_, rfl⟩
      obtain ⟨M, hM⟩ : ∃ M, M = newC been L.length + t.length := ⟨_, rfl⟩
      rw [← hM] at HM1
      go_loopw [11, 12, 13, 14, 16] (fun vt vb vs vp vk wr => ∃ been todo said passed bare k, vb = .bool bare ∧ vk = .int .i64 ((k : Nat) : Int) ∧ k ≤ L.length ∧ Hid (Last L v i on been todo said passed bare z k) ∧ Hid (LastB w wr P R V (.slice (some ⟨b, off, none⟩) L.length cap) L.length Bo Bn on been todo said passed vt vs vp) ∧ said.length + passed.length + newC been L.length ≤ L.length ∧ todo.length + newC been L.length ≤ L.length + 1 ∧ newC been L.length + todo.length ≤ M) (fun _ _ _ _ vk _ => L.length - (intOf vk).toNat)
      case atStart => exact ⟨_, _, _, _, bare, 0, rfl, rfl, Nat.zero_le _, unhide HS1, unhide HB1, hf1, by omega, by omega⟩
      case round =>
        clear HS1 HB1 hf1 hf2 hM htl
        obtain ⟨been, todo, said, passed, bare, k, rfl, rfl, hk, HS, HB, hf1, hf2, hf3⟩ := hrel
        have p3 := (unhide HB).p.c3
        by_cases hlt : k < L.length
        case neg =>
          obtain rfl : k = L.length := by omega
          go_wp2_with fail
          go_roundw
          case rel => exact ⟨been, todo, said, passed, bare, z, rfl, unhide HS, unhide HB, hf1, hf2⟩
          case measure =>
            have h1 := (unhide HB).measure
            have h2 := unhide HM1
            rw [h1, ← h2]; omega
        have hki : (k : Int) < (L.length : Int) := by omega
        have hk0 : (0 : Int) ≤ (k : Int) := by omega
        have c1 := (unhide HB).onr.cell hlt
        have c2 := (unhide HB).row.cell hlt
        obtain ⟨o, ho⟩ : ∃ o, o = on k := ⟨_, rfl⟩
        obtain ⟨bk, hbk⟩ : ∃ bk, bk = been k := ⟨_, rfl⟩
        rw [← ho] at c1
        rw [← hbk] at c2
        have HO := hide ho
        have HBK := hide hbk
        clear ho hbk
        cases o
        · go_wp2_with fail
          go_roundw
          case rel => exact ⟨been, todo, said, passed, bare, k + 1, rfl, by go_num, by omega, (unhide HS).skip (fun j _ h _ => by rw [← unhide HO] at h; cases h), unhide HB, hf1, hf2, hf3⟩
          case measure => simp [intOf]; omega
        cases bk
        case true =>
          go_wp2_with fail
          go_roundw
          case rel => exact ⟨been, todo, said, passed, bare, k + 1, rfl, by go_num, by omega, (unhide HS).skip (fun j _ _ _ => (unhide HBK).symm), unhide HB, hf1, hf2, hf3⟩
          case measure => simp [intOf]; omega
        have p0 := (unhide HB).p.c0
        have p1 := (unhide HB).p.c1
        have p2 := (unhide HB).p.c2
        have KN1 := hide (unhide KN P R V L (some ⟨b, off, none⟩) cap k hlt hn40 wr ((unhide HH).below (unhide HB).bel))
        have HNM : Hid (∀ j : Nat, Nx L k j → (j : Int) ∈ nxtL (inAt L k) k) := fun j h => nxtL_mem.2 h
        have hl2 := nxtL_len (inAt L k) k
        obtain ⟨xs, hxs⟩ : ∃ xs, xs = nxtL (inAt L k) k := ⟨_, rfl⟩
        unfold NextPost at KN1
        rw [← hxs] at KN1 HNM hl2
        clear hxs
        go_wp2_with fail
        refine (unhide KN1).mono ?_
        rintro _ w5 ⟨so, sc, rfl, hN, hb5, _⟩
        have HB5 := hide ((unhide HB).below hb5)
        have HN := hide hN
        clear p0 p1 p2 p3 c1 c2 hb5 hN HB KN1
        go_wp2_with fail
        obtain ⟨wp, rfl⟩ : ∃ wp, wp = wr := ⟨_, rfl⟩
        go_loopw [18, 19] (fun vl vm wx => ∃ (ld : Bool) (m : Nat), vl = .bool ld ∧ vm = .int .i64 m ∧ m ≤ xs.length ∧ Hid (ld = true ↔ z ∈ xs.take m) ∧ wx = w5) (fun _ vm _ => xs.length - (intOf vm).toNat)
        case atStart => exact ⟨false, 0, rfl, rfl, Nat.zero_le _, ⟨fun h => Bool.noConfusion h, fun h => absurd h (by rw [List.take_zero]; exact List.not_mem_nil)⟩, rfl⟩
        case round =>
          obtain ⟨ld, m, rfl, rfl, hm, HLD, rfl⟩ := hrel
          by_cases hml : m < xs.length
          · have hmi : (m : Int) < (xs.length : Int) := by omega
            have hm0 : (0 : Int) ≤ (m : Int) := by omega
            obtain ⟨lb, lo, rfl, _, hc⟩ : ∃ b off, so = some ⟨b, off, none⟩ ∧ b < wr.heap.size ∧ ∀ q, q < xs.length → wr.cell? ⟨b, off + q, none⟩ = some (.int .i64 (nth xs q)) := by
              rcases unhide HN with h | h
              · rw [h] at hml; exact absurd hml (Nat.not_lt_zero _)
              · exact h
            have cy := hc m hml
            have HTK := hide (take_mem_succ (z := z) hml)
            obtain ⟨y, hy⟩ : ∃ y, y = nth xs m := ⟨_, rfl⟩
            rw [← hy] at cy HTK
            clear hc hy
            cases ld
            · have HN0 : Hid (¬ z ∈ xs.take m) := fun h => Bool.noConfusion ((unhide HLD).2 h)
              by_cases e : y = z
              · subst e
                go_wp2_with fail
                go_roundw
                case rel => exact ⟨true, m + 1, rfl, by go_num, by omega, ⟨fun _ => (unhide HTK).2 (.inr rfl), fun _ => rfl⟩, trivial⟩
                case measure => simp [intOf]; omega
              · have e' : (y == z) = false := by rw [beq_eq_false_iff_ne]; exact e
                have HE := hide e
                clear e
                go_wp2_with fail
                go_roundw
                case rel =>
                  refine ⟨false, m + 1, rfl, by go_num, by omega, ⟨fun h => Bool.noConfusion h, fun h => ?_⟩, trivial⟩
                  rcases (unhide HTK).1 h with h | h
                  · exact absurd h (unhide HN0)
                  · exact absurd h.symm (unhide HE)
                case measure => simp [intOf]; omega
            · go_wp2_with fail
              go_roundw
              case rel => exact ⟨true, m + 1, rfl, by go_num, by omega, ⟨fun _ => (unhide HTK).2 (.inl ((unhide HLD).1 rfl)), fun _ => rfl⟩, trivial⟩
              case measure => simp [intOf]; omega
          obtain rfl : m = xs.length := by omega
          rw [List.take_length] at HLD
          cases ld
          · go_wp2_with fail
            go_roundw
            case rel => exact ⟨been, todo, said, passed, bare, k + 1, rfl, by go_num, by omega, (unhide HS).skip (fun j e _ hn => Bool.noConfusion ((unhide HLD).2 (by rw [← e]; exact unhide HNM j hn))), unhide HB5, hf1, hf2, hf3⟩
            case measure => simp [intOf]; omega
          have hf : ∀ o, wr.frozen? ⟨Bn, o, none⟩ = false := (unhide HB5).row.free
          have c2 := (unhide HB5).row.cell hlt
          rw [← unhide HBK] at c2
          have HB6 := hide ((unhide HB5).at k)
          have HC := hide (newC_on (been := been) (j := k) (unhide HBK).symm L.length hlt)
          obtain ⟨w6, hw6⟩ : ∃ w6, w6 = wr.setCell ⟨Bn, k, none⟩ (.bool true) := ⟨_, rfl⟩
          rw [← hw6] at HB6
          have HW6 := hide hw6
          clear hw6
          go_upto_region 21 with fail
          rw [← unhide HW6]
          clear c2 hf HB5 HW6
          have p3 := (unhide HB6).p.c3
          obtain ⟨q0, q1, q2, q3⟩ := ((unhide HI) k hlt).below (unhide HB6).bel hb
          obtain ⟨x, hx⟩ : ∃ x, x = inAt L k := ⟨_, rfl⟩
          rw [← hx] at q0 q1 q2 q3
          have HX := hide hx
          clear hx
          obtain ⟨op, d, a, b'⟩ := x
          simp only at q0 q1 q2 q3
          have KS1 := hide (unhide KS op d a b' v w6)
          obtain ⟨sy, hsy⟩ : ∃ s, s = sayB ⟨op, d, a, b'⟩ (v : Int) := ⟨_, rfl⟩
          rw [← hsy] at KS1
          have HSY := hide hsy
          clear hsy
          go_wp2_with fail
          refine (unhide KS1).mono ?_
          rintro _ w7 ⟨rfl, hb7⟩
          have HB7 := hide ((unhide HB6).below hb7)
          have hbig := (unhide HB7).big
          clear q0 q1 q2 q3 p3 hb7 HB6 KS1
          cases sy
          · have HSS : Hid (sayB (inAt L k) v = false) := by unfold Hid; rw [← unhide HX]; exact (unhide HSY).symm
            have HOWN := hide (unhide HB7).rows.oz
            obtain ⟨bk0, hbk0⟩ : ∃ bk0, ((k : Int) == 0) = bk0 := ⟨_, rfl⟩
            have HKB : Hid (bk0 = false → k ≠ 0) := fun h e => by rw [h, e] at hbk0; cases hbk0
            go_wp2_with (at_builtin; refine wpList_append_lies _ rfl _ _ 32 rfl (Bn + 1) 3 i0 (.int .i64 0) 1 8 Tryd.underlying32 hi0 hz0 hz1' hz2' rfl (by decide) _ _ _ rfl (own_keep (unhide HOWN) (S := fun _ => False) (by repeat first | exact Keep.refl _ _ | refine Keep.drew ?_ | refine Keep.alloc ?_ _) (fun _ _ h => h)) ⟨w7.heap.size, 0, none⟩ 1 1 [.int .i64 (k : Int)] rfl rfl (World.news_of_block (cs := #[.int .i64 (k : Int)]) (t := 3) (fr := (0, 0)) (heap_alloc_new _ _)) (by simp [Value.oneCell']) (by omega) (by unfold maxLen; omega) (by omega) (by simp; omega) (w7.heap.size + 1) (by simp) ?_)
            intro g2 cap2 w8 hown8 hgrow8 hat8 _
            have h8 := (unhide HB7).rows.rot.rot.push (B := w7.heap.size + 1) (by repeat first | exact Keep.refl _ _ | refine Keep.drew ?_ | refine Keep.alloc ?_ _) hgrow8 (by omega) hown8 hat8
            have HB8 := hide ((unhide HB7).keep h8.2 (fun _ h => h) h8.1.rot)
            have hbig8 := (unhide HB8).big
            clear hown8 hgrow8 hat8 h8 HOWN HB7
            have HOWN := hide (unhide HB8).rows.ox
            go_wp2_with (at_builtin; refine wpList_append_lies _ rfl _ _ 32 rfl (Bn + 1) 3 i0 (.int .i64 0) 1 8 Tryd.underlying32 hi0 hz0 hz1' hz2' rfl (by decide) _ _ _ rfl (own_keep (unhide HOWN) (S := fun _ => False) (by repeat first | exact Keep.refl _ _ | refine Keep.drew ?_ | refine Keep.alloc ?_ _) (fun _ _ h => h)) ⟨w8.heap.size, 0, none⟩ 1 1 [.int .i64 (k : Int)] rfl rfl (World.news_of_block (cs := #[.int .i64 (k : Int)]) (t := 3) (fr := (0, 0)) (heap_alloc_new _ _)) (by simp [Value.oneCell']) (by omega) (by unfold maxLen; omega) (by omega) (by simp; omega) (w8.heap.size + 1) (by simp) ?_)
            intro g3 cap3 w9 hown9 hgrow9 hat9 _
            have h9 := (unhide HB8).rows.push (B := w8.heap.size + 1) (by repeat first | exact Keep.refl _ _ | refine Keep.drew ?_ | refine Keep.alloc ?_ _) hgrow9 (by omega) hown9 hat9
            have HB9 := hide ((unhide HB8).keep h9.2 (fun _ h => h) h9.1)
            clear hown9 hgrow9 hat9 h9 HOWN HB8
            cases bare
            · go_wp2_with fail
              go_roundw
              case rel => exact ⟨_, _, _, _, bk0, k + 1, rfl, by go_num, by omega, (unhide HS).pass hlt (unhide HSS) (fun h => ⟨rfl, unhide HKB h⟩), unhide HB9, by have := unhide HC; rw [List.length_append, List.length_singleton]; omega, by have := unhide HC; rw [List.length_append, List.length_singleton]; omega, by have := unhide HC; rw [List.length_append, List.length_singleton]; omega⟩
              case measure => simp [intOf]; omega
            · go_wp2_with fail
              go_roundw
              case rel => exact ⟨_, _, _, _, true, k + 1, rfl, by go_num, by omega, (unhide HS).pass hlt (unhide HSS) (fun h => Bool.noConfusion h), unhide HB9, by have := unhide HC; rw [List.length_append, List.length_singleton]; omega, by have := unhide HC; rw [List.length_append, List.length_singleton]; omega, by have := unhide HC; rw [List.length_append, List.length_singleton]; omega⟩
              case measure => simp [intOf]; omega
          · have HSS : Hid (sayB (inAt L k) v = true) := by unfold Hid; rw [← unhide HX]; exact (unhide HSY).symm
            have HOWN := hide (unhide HB7).rows.oy
            go_wp2_with (at_builtin; refine wpList_append_lies _ rfl _ _ 32 rfl (Bn + 1) 3 i0 (.int .i64 0) 1 8 Tryd.underlying32 hi0 hz0 hz1' hz2' rfl (by decide) _ _ _ rfl (own_keep (unhide HOWN) (S := fun _ => False) (by repeat first | exact Keep.refl _ _ | refine Keep.drew ?_ | refine Keep.alloc ?_ _) (fun _ _ h => h)) ⟨w7.heap.size, 0, none⟩ 1 1 [.int .i64 (k : Int)] rfl rfl (World.news_of_block (cs := #[.int .i64 (k : Int)]) (t := 3) (fr := (0, 0)) (heap_alloc_new _ _)) (by simp [Value.oneCell']) (by omega) (by unfold maxLen; omega) (by omega) (by simp; omega) (w7.heap.size + 1) (by simp) ?_)
            intro g2 cap2 w8 hown8 hgrow8 hat8 _
            have h8 := (unhide HB7).rows.rot.push (B := w7.heap.size + 1) (by repeat first | exact Keep.refl _ _ | refine Keep.drew ?_ | refine Keep.alloc ?_ _) hgrow8 (by omega) hown8 hat8
            have HB8 := hide ((unhide HB7).keep h8.2 (fun _ h => h) h8.1.rot.rot)
            clear hown8 hgrow8 hat8 h8 HOWN HB7
            go_wp2_with fail
            go_roundw
            case rel => exact ⟨_, _, _, _, bare, k + 1, rfl, by go_num, by omega, (unhide HS).say hlt (unhide HSS), unhide HB8, by have := unhide HC; rw [List.length_append, List.length_singleton]; omega, by have := unhide HC; omega, by have := unhide HC; omega⟩
            case measure => simp [intOf]; omega
end Go.Proofs.YtoepcplbpochpaaDoor
