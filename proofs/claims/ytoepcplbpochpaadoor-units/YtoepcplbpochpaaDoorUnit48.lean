/-
  What came in, opened: a program's code, a list of numbers; and the table that the program's text lays.
-/
import Derived.Test.YtoepcplbpochpaaDoorUnit12
import Derived.Deep.Slices
import Derived.ProofKit
import Derived.LaidMore
import Derived.OpenShut
import Derived.Stop.Joined
import Derived.SizedLaws

namespace Go.Proofs.YtoepcplbpochpaaDoor
open Go.ChangeShapes Go.WideShapes Go.ChangeAt Go.RowKit Go.Deep

theorem Tryd.cells77 : Tryd.prog.cellsOf 77 = 4 := by kernel_rfl
theorem Tryd.cells3 : Tryd.prog.cellsOf 3 = 1 := by kernel_rfl
theorem Tryd.cells22 : Tryd.prog.cellsOf 22 = 1 := by kernel_rfl
theorem Tryd.cells24 : Tryd.prog.cellsOf 24 = 4 := by kernel_rfl
theorem Tryd.cells167 : Tryd.prog.cellsOf 167 = 3 := by kernel_rfl

set_option maxRecDepth 100000 in
theorem open_code {H : Type} {enc : TypeId × Value → H} {w : World} {base : Nat} {spare : Nat → Bool} {held : Bool} {fuel : Nat} {cs : List Value} {x : DataW H × List MemPlace}
    (h : DataW.trod enc Tryd.prog w base spare held fuel 22 cs = some x) :
    cs = [.slice none 0 0] ∨ ∃ (a : Addr) (len cap : Nat) (L : List In4) (elems rest : List (DataW H)), cs = [.slice (some a) len cap] ∧ L.length = len ∧ x.1 = .slice elems rest ∧ elems.length = len ∧ HeldIns w (some a) L := by
  rcases open_slice Tryd.underlying22 h with ⟨h0, _⟩ | ⟨a, len, cap, m, n, D, Pl, rfl, hb, hl, hm, hmm, rfl, hx⟩
  · exact .inl h0
  right
  have hlm : len ≤ m := by rw [hmm]; split <;> omega
  have each : ∀ i, i < len → ∃ r : In4, w.cell? (a.add (i * 4)) = some (.int .i64 r.op) ∧ w.cell? (a.add (i * 4 + 1)) = some (.int .i64 r.d) ∧ w.cell? (a.add (i * 4 + 2)) = some (.int .i64 r.a) ∧ w.cell? (a.add (i * 4 + 3)) = some (.int .i64 r.b) := by
    intro i hi
    obtain ⟨cs', h1, h2⟩ := hx i (by omega)
    rw [Tryd.cells77] at h1
    obtain ⟨_, hlen, hcell⟩ := World.cells?_some h1
    obtain ⟨xs, k, hk, hxy, _, hxl, hf⟩ := DataW.trod_struct Tryd.underlying77 h2
    match xs, hxl, cs', hlen with
    | [y0, y1, y2, y3], _, [v0, v1, v2, v3], _ =>
      have g0 := hf 0 _ rfl
      have g1 := hf 1 _ rfl
      have g2 := hf 2 _ rfl
      have g3 := hf 3 _ rfl
      simp [Tryd.cells3] at g0 g1 g2 g3
      obtain ⟨z0, e0, _, _⟩ := DataW.trod_int Tryd.underlying3 g0
      obtain ⟨z1, e1, _, _⟩ := DataW.trod_int Tryd.underlying3 g1
      obtain ⟨z2, e2, _, _⟩ := DataW.trod_int Tryd.underlying3 g2
      obtain ⟨z3, e3, _, _⟩ := DataW.trod_int Tryd.underlying3 g3
      simp only [List.cons.injEq, and_true] at e0 e1 e2 e3
      subst e0 e1 e2 e3
      have c0 := hcell 0 (by omega)
      have c1 := hcell 1 (by omega)
      have c2 := hcell 2 (by omega)
      have c3 := hcell 3 (by omega)
      rw [add_add] at c0 c1 c2 c3
      exact ⟨⟨z0, z1, z2, z3⟩, by simpa using c0, by simpa using c1, by simpa using c2, by simpa using c3⟩
  have inh : Inhabited In4 := ⟨⟨0, 0, 0, 0⟩⟩
  obtain ⟨q, hq⟩ := choose_lt each
  have e : ∀ i, i < len → inAt ((List.range len).map q) i = q i := fun i hi => by unfold inAt; simp [hi]
  refine ⟨a, len, cap, (List.range len).map q, _, _, rfl, by simp, rfl, by simp, ?_⟩
  by_cases h0 : len = 0
  · exact .inl (by rw [h0]; rfl)
  obtain ⟨b, off, spot⟩ := a
  have hc := (hq 0 (by omega)).1
  have hspot : spot = none := by simpa [Addr.add] using World.cell?_spot hc
  subst hspot
  have hadd : ∀ j, (⟨b, off, none⟩ : Addr).add j = ⟨b, off + j, none⟩ := fun j => by unfold Addr.add; split <;> simp_all
  refine .inr ⟨b, off, rfl, ?_, fun i hi => ?_⟩
  · rw [hadd] at hc; exact World.block_lt_of_cell? w _ hc
  · rw [List.length_map, List.length_range] at hi
    obtain ⟨k0, k1, k2, k3⟩ := hq i hi
    rw [hadd] at k0 k1 k2 k3
    rw [e i hi]
    exact ⟨k0, k1, k2, k3⟩

set_option maxRecDepth 100000 in
theorem open_nums {H : Type} {enc : TypeId × Value → H} {w : World} {base : Nat} {spare : Nat → Bool} {held : Bool} {fuel : Nat} {cs : List Value} {x : DataW H × List MemPlace}
    (h : DataW.trod enc Tryd.prog w base spare held fuel 32 cs = some x) :
    cs = [.slice none 0 0] ∨ ∃ (a : Addr) (len cap : Nat) (L : List Int) (elems rest : List (DataW H)), cs = [.slice (some a) len cap] ∧ L.length = len ∧ x.1 = .slice elems rest ∧ elems.length = len ∧ HeldI w (some a) L := by
  rcases open_slice Tryd.underlying32 h with ⟨h0, _⟩ | ⟨a, len, cap, m, n, D, Pl, rfl, hb, hl, hm, hmm, rfl, hx⟩
  · exact .inl h0
  right
  have hlm : len ≤ m := by rw [hmm]; split <;> omega
  have each : ∀ i, i < len → ∃ r : Int, w.cell? (a.add i) = some (.int .i64 r) := by
    intro i hi
    obtain ⟨cs', h1, h2⟩ := hx i (by omega)
    rw [Tryd.cells3] at h1
    obtain ⟨_, hlen, hcell⟩ := World.cells?_some h1
    match cs', hlen with
    | [v0], _ =>
      obtain ⟨z0, e0, _, _⟩ := DataW.trod_int Tryd.underlying3 h2
      simp only [List.cons.injEq, and_true] at e0
      subst e0
      have c0 := hcell 0 (by omega)
      rw [add_add] at c0
      exact ⟨z0, by simpa using c0⟩
  have inh : Inhabited Int := ⟨0⟩
  obtain ⟨q, hq⟩ := choose_lt each
  have e : ∀ i, i < len → nth ((List.range len).map q) i = q i := fun i hi => by unfold nth; simp [hi]
  refine ⟨a, len, cap, (List.range len).map q, _, _, rfl, by simp, rfl, by simp, ?_⟩
  by_cases h0 : len = 0
  · exact .inl (by rw [h0]; rfl)
  obtain ⟨b, off, spot⟩ := a
  have hc := hq 0 (by omega)
  have hspot : spot = none := by simpa [Addr.add] using World.cell?_spot hc
  subst hspot
  have hadd : ∀ j, (⟨b, off, none⟩ : Addr).add j = ⟨b, off + j, none⟩ := fun j => by unfold Addr.add; split <;> simp_all
  refine .inr ⟨b, off, rfl, ?_, fun i hi => ?_⟩
  · rw [hadd] at hc; exact World.block_lt_of_cell? w _ hc
  · rw [List.length_map, List.length_range] at hi
    have k0 := hq i hi
    rw [hadd] at k0
    rw [e i hi]
    exact k0

set_option maxRecDepth 100000 in
theorem open_prog {H : Type} {enc : TypeId × Value → H} {w : World} {base : Nat} {spare : Nat → Bool} {held : Bool} {fuel : Nat} {cl : List Value} {x : DataW H × List MemPlace}
    (h : DataW.trod enc Tryd.prog w base spare held fuel 24 cl = some x) :
    ∃ (P R V : Int) (ac : Option Addr) (L : List In4) (cc : Nat), cl = [.int .i64 P, .int .i64 R, .int .i64 V, .slice ac L.length cc] ∧ HeldIns w ac L ∧ (L = [] ∨ ∃ y0 y1 y2 elems rest, x.1 = .agg [y0, y1, y2, .slice elems rest] ∧ elems.length = L.length) := by
  obtain ⟨xs, n, _, hxy, hl, hxl, hf⟩ := DataW.trod_struct Tryd.underlying24 h
  rw [Tryd.cells24] at hl
  match xs, hxl, cl, hl with
  | [y0, y1, y2, y3], _, [c0, c1, c2, c3], _ =>
    have g0 := hf 0 _ rfl
    have g1 := hf 1 _ rfl
    have g2 := hf 2 _ rfl
    have g3 := hf 3 _ rfl
    simp [Tryd.cells3, Tryd.cells22] at g0 g1 g2 g3
    obtain ⟨z0, e0, _, _⟩ := DataW.trod_int Tryd.underlying3 g0
    obtain ⟨z1, e1, _, _⟩ := DataW.trod_int Tryd.underlying3 g1
    obtain ⟨z2, e2, _, _⟩ := DataW.trod_int Tryd.underlying3 g2
    simp only [List.cons.injEq, and_true] at e0 e1 e2
    subst e0 e1 e2
    rcases open_code g3 with hc | ⟨a, l, c, L, elems, rest, hc, hR, hx, he, hh⟩
    · simp only [List.cons.injEq, and_true] at hc
      subst hc
      exact ⟨z0, z1, z2, none, [], 0, rfl, .inl rfl, .inl rfl⟩
    · simp only [List.cons.injEq, and_true] at hc
      subst hc
      refine ⟨z0, z1, z2, some a, L, c, by rw [hR], hh, .inr ⟨y0.1, y1.1, y2.1, elems, rest, ?_, by rw [he, hR]⟩⟩
      rw [hxy, ← hx]
      rfl
theorem sized_prog {H : Type} {ts : List TypeId} {ds : List (DataW H)} {y0 y1 y2 : DataW H} {elems rest : List (DataW H)} (h : (DataW.weightsEach Tryd.prog ts ds).all (· ≤ reachBytes) = true) (ht : ts[0]? = some 24) (hd : ds[0]? = some (.agg [y0, y1, y2, .slice elems rest])) : elems.length * 32 ≤ 140737488351232 := by
  have hm : (elems.length + rest.length) * Tryd.prog.bytesOf 77 ∈ (DataW.agg [y0, y1, y2, .slice elems rest] : DataW H).weights Tryd.prog 24 := by
    simp [DataW.weights, Tryd.underlying24, DataW.weightsEach, Tryd.underlying22]
  have := List.all_eq_true.1 h _ (DataW.weights_mem_each ht hd _ hm)
  rw [show Tryd.prog.bytesOf 77 = 32 by kernel_rfl] at this
  unfold reachBytes at this
  simp at this
  omega

theorem Tryd.cells9 : Tryd.prog.cellsOf 9 = 1 := by kernel_rfl
theorem Tryd.cells26 : Tryd.prog.cellsOf 26 = 6 := by kernel_rfl
set_option maxRecDepth 100000 in
theorem open_unit {H : Type} {enc : TypeId × Value → H} {w : World} {base : Nat} {spare : Nat → Bool} {held : Bool} {fuel : Nat} {cl : List Value} {x : DataW H × List MemPlace}
    (h : DataW.trod enc Tryd.prog w base spare held fuel 26 cl = some x) :
    ∃ (K S P V : Int) (ac : Option Addr) (L : List In4) (cc : Nat) (T : ByteArray), cl = [.int .i64 K, .int .i64 S, .int .i64 P, .int .i64 V, .slice ac L.length cc, .string T] ∧ HeldIns w ac L ∧ T.size ≤ maxLen ∧ (L = [] ∨ ∃ y0 y1 y2 y3 elems rest y5, x.1 = .agg [y0, y1, y2, y3, .slice elems rest, y5] ∧ elems.length = L.length) := by
  obtain ⟨xs, n, _, hxy, hl, hxl, hf⟩ := DataW.trod_struct Tryd.underlying26 h
  rw [Tryd.cells26] at hl
  match xs, hxl, cl, hl with
  | [y0, y1, y2, y3, y4, y5], _, [c0, c1, c2, c3, c4, c5], _ =>
    have g0 := hf 0 _ rfl
    have g1 := hf 1 _ rfl
    have g2 := hf 2 _ rfl
    have g3 := hf 3 _ rfl
    have g4 := hf 4 _ rfl
    have g5 := hf 5 _ rfl
    simp [Tryd.cells3, Tryd.cells22, Tryd.cells9] at g0 g1 g2 g3 g4 g5
    obtain ⟨z0, e0, _, _⟩ := DataW.trod_int Tryd.underlying3 g0
    obtain ⟨z1, e1, _, _⟩ := DataW.trod_int Tryd.underlying3 g1
    obtain ⟨z2, e2, _, _⟩ := DataW.trod_int Tryd.underlying3 g2
    obtain ⟨z3, e3, _, _⟩ := DataW.trod_int Tryd.underlying3 g3
    obtain ⟨T, e5, _, hT⟩ := DataW.trod_string Tryd.underlying9 g5
    simp only [List.cons.injEq, and_true] at e0 e1 e2 e3 e5
    subst e0 e1 e2 e3 e5
    rcases open_code g4 with hc | ⟨a, l, c, L, elems, rest, hc, hR, hx, he, hh⟩
    · simp only [List.cons.injEq, and_true] at hc
      subst hc
      exact ⟨z0, z1, z2, z3, none, [], 0, T, rfl, .inl rfl, hT, .inl rfl⟩
    · simp only [List.cons.injEq, and_true] at hc
      subst hc
      refine ⟨z0, z1, z2, z3, some a, L, c, T, by rw [hR], hh, hT, .inr ⟨y0.1, y1.1, y2.1, y3.1, elems, rest, y5.1, ?_, by rw [he, hR]⟩⟩
      rw [hxy, ← hx]
      rfl
theorem sized_unit {H : Type} {ts : List TypeId} {ds : List (DataW H)} {y0 y1 y2 y3 y5 : DataW H} {elems rest : List (DataW H)} {j : Nat} (h : (DataW.weightsEach Tryd.prog ts ds).all (· ≤ reachBytes) = true) (ht : ts[j]? = some 26) (hd : ds[j]? = some (.agg [y0, y1, y2, y3, .slice elems rest, y5])) : elems.length * 32 ≤ 140737488351232 := by
  have hm : (elems.length + rest.length) * Tryd.prog.bytesOf 77 ∈ (DataW.agg [y0, y1, y2, y3, .slice elems rest, y5] : DataW H).weights Tryd.prog 26 := by
    simp [DataW.weights, Tryd.underlying26, DataW.weightsEach, Tryd.underlying22]
  have := List.all_eq_true.1 h _ (DataW.weights_mem_each ht hd _ hm)
  rw [show Tryd.prog.bytesOf 77 = 32 by kernel_rfl] at this
  unfold reachBytes at this
  simp at this
  omega

theorem gKinds : Tryd.prog.globalNamed "lodge/code.kinds" = some 0 := by kernel_rfl
theorem tKinds : (Tryd.prog.globals[0]?).map (·.type) = some 168 := by kernel_rfl
theorem laid_kinds {H : Type} : (Rows.laid_lodge_code_kinds : DataW H) = .agg (kindL.map fun r => .agg (r.map fun k => .lit (.int .i64 k))) := rfl
theorem kind_row (o j : Nat) (ho : o < 17) (hj : j < 3) : ∃ r, kindL[o]? = some r ∧ r[j]? = some (kindAt o j) := by
  rcases (show o = 0 ∨ o = 1 ∨ o = 2 ∨ o = 3 ∨ o = 4 ∨ o = 5 ∨ o = 6 ∨ o = 7 ∨ o = 8 ∨ o = 9 ∨ o = 10 ∨ o = 11 ∨ o = 12 ∨ o = 13 ∨ o = 14 ∨ o = 15 ∨ o = 16 by omega) with rfl | rfl | rfl | rfl | rfl | rfl | rfl | rfl | rfl | rfl | rfl | rfl | rfl | rfl | rfl | rfl | rfl
  all_goals
    rcases (show j = 0 ∨ j = 1 ∨ j = 2 by omega) with rfl | rfl | rfl <;> exact ⟨_, rfl, rfl⟩

/-- What the condition on the table gives the walks. -/
theorem of_laid {W : World} (h : laidMetH Tryd.prog [("lodge/code.kinds", Rows.laid_lodge_code_kinds)] W) : Tab W := by
  rw [MakeChecks.laidMetH_plain _ _ _ (by kernel_rfl)] at h
  obtain ⟨ps, ⟨g0, t0, cs, f0, p0, q0, hg0, ht0, hv0, hd0, _, _⟩, _⟩ := h
  obtain rfl := Option.some.inj (gKinds.symm.trans hg0)
  obtain rfl := Option.some.inj (tKinds.symm.trans ht0)
  obtain ⟨xs, m, rfl, hx, hlen, hn, hel⟩ := DataW.trod_array Tryd.underlying168 hd0
  simp only [Prod.mk.injEq] at hx
  rw [laid_kinds, DataW.agg.injEq] at hx
  intro o j ho hj
  obtain ⟨r, hr, hrj⟩ := kind_row o j ho hj
  have h1 := hel o ho
  obtain ⟨x, hxo⟩ : ∃ x, xs[o]? = some x := ⟨xs[o]'(by omega), List.getElem?_eq_getElem _⟩
  rw [hxo] at h1
  have hd1 : x.1 = .agg (r.map fun k => .lit (.int .i64 k)) := by
    have e := congrArg (fun l : List (DataW _) => l[o]?) hx.1
    simp only [List.getElem?_map, hr, hxo, Option.map_some, Option.some.injEq] at e
    exact e.symm
  obtain ⟨ys, m', rfl, hy, hly, hny, hel'⟩ := DataW.trod_array Tryd.underlying167 h1
  have h2 := hel' j hj
  obtain ⟨y, hyj⟩ : ∃ y, ys[j]? = some y := ⟨ys[j]'(by omega), List.getElem?_eq_getElem _⟩
  rw [hyj] at h2
  have hd2 : y.1 = .lit (.int .i64 (kindAt o j)) := by
    rw [hy] at hd1
    simp only [DataW.agg.injEq] at hd1
    have e := congrArg (fun l : List (DataW _) => l[j]?) hd1
    simp only [List.getElem?_map, hrj, hyj, Option.map_some, Option.some.injEq] at e
    exact e
  obtain ⟨k, e1, e2, _⟩ := DataW.trod_int Tryd.underlying3 h2
  have hk : k = kindAt o j := by rw [e2] at hd2; simpa using hd2
  subst hk
  have hcell := World.var?_cell hg0 hv0 (o * 3 + j)
  rw [hcell]
  rw [Tryd.cells167, Tryd.cells3] at e1
  have e3 := congrArg (fun l : List Value => l[0]?) e1
  simp only [Nat.mul_one, List.getElem?_take, List.getElem?_drop, Nat.add_zero, List.getElem?_cons_zero] at e3
  rw [if_pos (by omega), if_pos hj, Array.getElem?_toList] at e3
  exact e3
end Go.Proofs.YtoepcplbpochpaaDoor
