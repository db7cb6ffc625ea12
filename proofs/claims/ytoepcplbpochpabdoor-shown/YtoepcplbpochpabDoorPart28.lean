/-
  What came in, opened, with the bounds of its numbers.
-/
import Derived.Test.YtoepcplbpochpabDoorPart27
import Derived.Test.YtoepcplbpochpabDoorPart21

namespace Go.Proofs.YtoepcplbpochpabDoor
open Go.ChangeShapes Go.WideShapes Go.ChangeAt Go.RowKit Go.Deep

set_option maxRecDepth 100000 in
theorem open_codeR {H : Type} {enc : TypeId × Value → H} {w : World} {base : Nat} {spare : Nat → Bool} {held : Bool} {fuel : Nat} {cs : List Value} {x : DataW H × List MemPlace}
    (h : DataW.trod enc Tryd.prog w base spare held fuel 22 cs = some x) :
    cs = [.slice none 0 0] ∨ ∃ (a : Addr) (len cap : Nat) (L : List In4) (elems rest : List (DataW H)), cs = [.slice (some a) len cap] ∧ L.length = len ∧ x.1 = .slice elems rest ∧ elems.length = len ∧ HeldIns w (some a) L ∧ RngI L ∧ len ≤ cap := by
  rcases open_slice Tryd.underlying22 h with ⟨h0, _⟩ | ⟨a, len, cap, m, n, D, Pl, rfl, hb, hl, hm, hmm, rfl, hx⟩
  · exact .inl h0
  right
  have hlm : len ≤ m := by rw [hmm]; split <;> omega
  have each : ∀ i, i < len → ∃ r : In4, w.cell? (a.add (i * 4)) = some (.int .i64 r.op) ∧ w.cell? (a.add (i * 4 + 1)) = some (.int .i64 r.d) ∧ w.cell? (a.add (i * 4 + 2)) = some (.int .i64 r.a) ∧ w.cell? (a.add (i * 4 + 3)) = some (.int .i64 r.b) ∧ Rng r.op ∧ Rng r.d ∧ Rng r.a ∧ Rng r.b := by
    intro i hi
    obtain ⟨cs', h1, h2⟩ := hx i (by omega)
    rw [Tryd.cells31] at h1
    obtain ⟨_, hlen, hcell⟩ := World.cells?_some h1
    obtain ⟨xs, k, hk, hxy, _, hxl, hf⟩ := DataW.trod_struct Tryd.underlying31 h2
    match xs, hxl, cs', hlen with
    | [y0, y1, y2, y3], _, [v0, v1, v2, v3], _ =>
      have g0 := hf 0 _ rfl
      have g1 := hf 1 _ rfl
      have g2 := hf 2 _ rfl
      have g3 := hf 3 _ rfl
      simp [Tryd.cells3] at g0 g1 g2 g3
      obtain ⟨z0, e0, _, f0⟩ := DataW.trod_int Tryd.underlying3 g0
      obtain ⟨z1, e1, _, f1⟩ := DataW.trod_int Tryd.underlying3 g1
      obtain ⟨z2, e2, _, f2⟩ := DataW.trod_int Tryd.underlying3 g2
      obtain ⟨z3, e3, _, f3⟩ := DataW.trod_int Tryd.underlying3 g3
      simp only [List.cons.injEq, and_true] at e0 e1 e2 e3
      subst e0 e1 e2 e3
      have c0 := hcell 0 (by omega)
      have c1 := hcell 1 (by omega)
      have c2 := hcell 2 (by omega)
      have c3 := hcell 3 (by omega)
      rw [add_add] at c0 c1 c2 c3
      exact ⟨⟨z0, z1, z2, z3⟩, by simpa using c0, by simpa using c1, by simpa using c2, by simpa using c3, bounds_i64 f0, bounds_i64 f1, bounds_i64 f2, bounds_i64 f3⟩
  have inh : Inhabited In4 := ⟨⟨0, 0, 0, 0⟩⟩
  obtain ⟨q, hq⟩ := choose_lt each
  have e : ∀ i, i < len → inAt ((List.range len).map q) i = q i := fun i hi => by unfold inAt; simp [hi]
  refine ⟨a, len, cap, (List.range len).map q, _, _, rfl, by simp, rfl, by simp, ?_, fun i hi => ?_, hl⟩
  case refine_2 =>
    rw [List.length_map, List.length_range] at hi
    rw [e i hi]
    obtain ⟨_, _, _, _, g0, g1, g2, g3⟩ := hq i hi
    exact ⟨g0, g1, g2, g3⟩
  by_cases h0 : len = 0
  · exact .inl (by rw [h0]; rfl)
  obtain ⟨b, off, spot⟩ := a
  have hc := (hq 0 (by omega)).1
  have hspot : spot = none := by simpa [Addr.add] using World.cell?_spot hc
  subst hspot
  have hadd : ∀ j, (⟨b, off, none⟩ : Addr).add j = ⟨b, off + j, none⟩ := fun j => by unfold Addr.add; split <;> simp_all
  refine .inr ⟨b, off, rfl, ?_, fun i hi => ?_⟩
  · rw [hadd] at hc; exact World.block_lt_of_cell? w _ hc
  · rw [List.length_map, List.length_range] at hi
    obtain ⟨k0, k1, k2, k3, _⟩ := hq i hi
    rw [hadd] at k0 k1 k2 k3
    rw [e i hi]
    exact ⟨k0, k1, k2, k3⟩

set_option maxRecDepth 100000 in
theorem open_numsR {H : Type} {enc : TypeId × Value → H} {w : World} {base : Nat} {spare : Nat → Bool} {held : Bool} {fuel : Nat} {cs : List Value} {x : DataW H × List MemPlace}
    (h : DataW.trod enc Tryd.prog w base spare held fuel 25 cs = some x) :
    cs = [.slice none 0 0] ∨ ∃ (a : Addr) (len cap : Nat) (L : List Int) (elems rest : List (DataW H)), cs = [.slice (some a) len cap] ∧ L.length = len ∧ x.1 = .slice elems rest ∧ elems.length = len ∧ HeldI w (some a) L ∧ (∀ i, i < L.length → Rng (nth L i)) := by
  rcases open_slice Tryd.underlying25 h with ⟨h0, _⟩ | ⟨a, len, cap, m, n, D, Pl, rfl, hb, hl, hm, hmm, rfl, hx⟩
  · exact .inl h0
  right
  have hlm : len ≤ m := by rw [hmm]; split <;> omega
  have each : ∀ i, i < len → ∃ r : Int, w.cell? (a.add i) = some (.int .i64 r) ∧ Rng r := by
    intro i hi
    obtain ⟨cs', h1, h2⟩ := hx i (by omega)
    rw [Tryd.cells3] at h1
    obtain ⟨_, hlen, hcell⟩ := World.cells?_some h1
    match cs', hlen with
    | [v0], _ =>
      obtain ⟨z0, e0, _, f0⟩ := DataW.trod_int Tryd.underlying3 h2
      simp only [List.cons.injEq, and_true] at e0
      subst e0
      have c0 := hcell 0 (by omega)
      rw [add_add] at c0
      exact ⟨z0, by simpa using c0, bounds_i64 f0⟩
  have inh : Inhabited Int := ⟨0⟩
  obtain ⟨q, hq⟩ := choose_lt each
  have e : ∀ i, i < len → nth ((List.range len).map q) i = q i := fun i hi => by unfold nth; simp [hi]
  refine ⟨a, len, cap, (List.range len).map q, _, _, rfl, by simp, rfl, by simp, ?_, fun i hi => ?_⟩
  case refine_2 =>
    rw [List.length_map, List.length_range] at hi
    rw [e i hi]
    exact (hq i hi).2
  by_cases h0 : len = 0
  · exact .inl (by rw [h0]; rfl)
  obtain ⟨b, off, spot⟩ := a
  have hc := (hq 0 (by omega)).1
  have hspot : spot = none := by simpa [Addr.add] using World.cell?_spot hc
  subst hspot
  have hadd : ∀ j, (⟨b, off, none⟩ : Addr).add j = ⟨b, off + j, none⟩ := fun j => by unfold Addr.add; split <;> simp_all
  refine .inr ⟨b, off, rfl, ?_, fun i hi => ?_⟩
  · rw [hadd] at hc; exact World.block_lt_of_cell? w _ hc
  · rw [List.length_map, List.length_range] at hi
    have k0 := (hq i hi).1
    rw [hadd] at k0
    rw [e i hi]
    exact k0

set_option maxRecDepth 100000 in
theorem open_progR {H : Type} {enc : TypeId × Value → H} {w : World} {base : Nat} {spare : Nat → Bool} {held : Bool} {fuel : Nat} {cl : List Value} {x : DataW H × List MemPlace}
    (h : DataW.trod enc Tryd.prog w base spare held fuel 24 cl = some x) :
    ∃ (P R V : Int) (ac : Option Addr) (L : List In4) (cc : Nat), cl = [.int .i64 P, .int .i64 R, .int .i64 V, .slice ac L.length cc] ∧ HeldIns w ac L ∧ RngI L ∧ Rng P ∧ Rng R ∧ Rng V ∧ L.length ≤ cc ∧ (L = [] ∨ ∃ y0 y1 y2 elems rest, x.1 = .agg [y0, y1, y2, .slice elems rest] ∧ elems.length = L.length) := by
  obtain ⟨xs, n, _, hxy, hl, hxl, hf⟩ := DataW.trod_struct Tryd.underlying24 h
  rw [Tryd.cells24] at hl
  match xs, hxl, cl, hl with
  | [y0, y1, y2, y3], _, [c0, c1, c2, c3], _ =>
    have g0 := hf 0 _ rfl
    have g1 := hf 1 _ rfl
    have g2 := hf 2 _ rfl
    have g3 := hf 3 _ rfl
    simp [Tryd.cells3, Tryd.cells22] at g0 g1 g2 g3
    obtain ⟨z0, e0, _, f0⟩ := DataW.trod_int Tryd.underlying3 g0
    obtain ⟨z1, e1, _, f1⟩ := DataW.trod_int Tryd.underlying3 g1
    obtain ⟨z2, e2, _, f2⟩ := DataW.trod_int Tryd.underlying3 g2
    simp only [List.cons.injEq, and_true] at e0 e1 e2
    subst e0 e1 e2
    rcases open_codeR g3 with hc | ⟨a, l, c, L, elems, rest, hc, hR, hx, he, hh, hr, hlc⟩
    · simp only [List.cons.injEq, and_true] at hc
      subst hc
      exact ⟨z0, z1, z2, none, [], 0, rfl, .inl rfl, fun i hi => absurd hi (Nat.not_lt_zero _), bounds_i64 f0, bounds_i64 f1, bounds_i64 f2, Nat.le_refl _, .inl rfl⟩
    · simp only [List.cons.injEq, and_true] at hc
      subst hc
      refine ⟨z0, z1, z2, some a, L, c, by rw [hR], hh, hr, bounds_i64 f0, bounds_i64 f1, bounds_i64 f2, by rw [hR]; exact hlc, .inr ⟨y0.1, y1.1, y2.1, elems, rest, ?_, by rw [he, hR]⟩⟩
      rw [hxy, ← hx]
      rfl
end Go.Proofs.YtoepcplbpochpabDoor
