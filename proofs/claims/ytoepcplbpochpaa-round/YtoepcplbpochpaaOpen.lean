/-
  A slice of ranges that came in, opened: the list that it holds.
-/
import Derived.Test.YtoepcplbpochpaaIsTable
import Derived.Deep.Slices
import Derived.ProofKit
namespace Go.Proofs.Ytoepcplbpochpaa
open Go.ChangeShapes Go.WideShapes Go.ChangeAt Go.RowKit Go.Deep

theorem Try.cells30 : Try.prog.cellsOf 30 = 5 := by kernel_rfl
theorem Try.cells3 : Try.prog.cellsOf 3 = 1 := by kernel_rfl

/-- Its numbers are ints. -/
def Ints (r : Rg) : Prop := (Lit.int .i64 r.v).wf = true ∧ (Lit.int .i64 r.f).wf = true ∧ (Lit.int .i64 r.t).wf = true ∧ (Lit.int .i64 r.k).wf = true ∧ (Lit.int .i64 r.a).wf = true

theorem open_ranges {H : Type} {enc : TypeId × Value → H} {w : World} {base : Nat} {spare : Nat → Bool} {held : Bool} {fuel : Nat} {cs : List Value} {x : DataW H × List MemPlace}
    (h : DataW.trod enc Try.prog w base spare held fuel 28 cs = some x) :
    cs = [.slice none 0 0] ∨ ∃ (a : Addr) (len cap : Nat) (R : List Rg) (elems rest : List (DataW H)), cs = [.slice (some a) len cap] ∧ R.length = len ∧ x.1 = .slice elems rest ∧ elems.length = len ∧ Held w (some a) R ∧ ∀ i, i < len → Ints (rg R i) := by
  rcases open_slice Try.underlying28 h with ⟨h0, _⟩ | ⟨a, len, cap, m, n, D, Pl, rfl, hb, hl, hm, hmm, rfl, hx⟩
  · exact .inl h0
  right
  have hlm : len ≤ m := by rw [hmm]; split <;> omega
  have each : ∀ i, i < len → ∃ r : Rg, w.cell? (a.add (i * 5)) = some (.int .i64 r.v) ∧ w.cell? (a.add (i * 5 + 1)) = some (.int .i64 r.f) ∧ w.cell? (a.add (i * 5 + 2)) = some (.int .i64 r.t) ∧ w.cell? (a.add (i * 5 + 3)) = some (.int .i64 r.k) ∧ w.cell? (a.add (i * 5 + 4)) = some (.int .i64 r.a) ∧ Ints r := by
    intro i hi
    obtain ⟨cs', h1, h2⟩ := hx i (by omega)
    rw [Try.cells30] at h1
    obtain ⟨_, hlen, hcell⟩ := World.cells?_some h1
    obtain ⟨xs, k, hk, hxy, _, hxl, hf⟩ := DataW.trod_struct Try.underlying30 h2
    match xs, hxl, cs', hlen with
    | [y0, y1, y2, y3, y4], _, [v0, v1, v2, v3, v4], _ =>
      have g0 := hf 0 _ rfl
      have g1 := hf 1 _ rfl
      have g2 := hf 2 _ rfl
      have g3 := hf 3 _ rfl
      have g4 := hf 4 _ rfl
      simp [Try.cells3] at g0 g1 g2 g3 g4
      obtain ⟨z0, e0, _, i0⟩ := DataW.trod_int Try.underlying3 g0
      obtain ⟨z1, e1, _, i1⟩ := DataW.trod_int Try.underlying3 g1
      obtain ⟨z2, e2, _, i2⟩ := DataW.trod_int Try.underlying3 g2
      obtain ⟨z3, e3, _, i3⟩ := DataW.trod_int Try.underlying3 g3
      obtain ⟨z4, e4, _, i4⟩ := DataW.trod_int Try.underlying3 g4
      simp only [List.cons.injEq, and_true] at e0 e1 e2 e3 e4
      subst e0 e1 e2 e3 e4
      have c0 := hcell 0 (by omega)
      have c1 := hcell 1 (by omega)
      have c2 := hcell 2 (by omega)
      have c3 := hcell 3 (by omega)
      have c4 := hcell 4 (by omega)
      rw [add_add] at c0 c1 c2 c3 c4
      exact ⟨⟨z0, z1, z2, z3, z4⟩, by simpa using c0, by simpa using c1, by simpa using c2, by simpa using c3, by simpa using c4, i0, i1, i2, i3, i4⟩
  have inh : Inhabited Rg := ⟨⟨0, 0, 0, 0, 0⟩⟩
  obtain ⟨q, hq⟩ := choose_lt each
  have e : ∀ i, i < len → rg ((List.range len).map q) i = q i := fun i hi => by unfold rg; simp [hi]
  refine ⟨a, len, cap, (List.range len).map q, _, _, rfl, by simp, rfl, by simp, ?_, fun i hi => by rw [e i hi]; exact (hq i hi).2.2.2.2.2⟩
  by_cases h0 : len = 0
  · exact .inl (by rw [h0]; rfl)
  obtain ⟨b, off, spot⟩ := a
  have hc := (hq 0 (by omega)).1
  have hspot : spot = none := by simpa [Addr.add] using World.cell?_spot hc
  subst hspot
  have hadd : ∀ j, (⟨b, off, none⟩ : Addr).add j = ⟨b, off + j, none⟩ := fun j => by unfold Addr.add; split <;> simp_all
  refine .inr ⟨b, off, rfl, ?_, fun i hi => ?_⟩
  · rw [hadd] at hc; exact World.block_lt_of_cell? w _ hc
  · rw [List.length_map, List.length_range] at hi
    obtain ⟨k0, k1, k2, k3, k4, _⟩ := hq i hi
    rw [hadd] at k0 k1 k2 k3 k4
    rw [e i hi]
    exact ⟨k0, k1, k2, k3, k4⟩
end Go.Proofs.Ytoepcplbpochpaa
