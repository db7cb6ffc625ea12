/-
  What ir.Run answers: the error, and the whole result, in memory of its own.
-/
import Derived.Test.YtoepcplbpochpabDoorPart13
import Derived.Test.YtoepcplbpochpabDoorPart14
import Derived.Test.YtoepcplbpochpabDoorPart4
import Derived.Test.YtoepcplbpochpabDoorPart11
import Derived.Test.YtoepcplbpochpabDoorPart9

namespace Go.Proofs.YtoepcplbpochpabDoor
open Go.RowKit

/-- The answer of a run: its error and what it came to. -/
def runE (P R V : Int) (L : List In4) (xs : List Int) (fuel : Int) : Int × St :=
  if (progE P R V L).1 ≠ 0 then ((progE P R V L).1, zst) else if startE xs P fuel ≠ 0 then (startE xs P fuel, zst) else (0, runSt L fuel.toNat (st0 xs))
/-- A result in memory. -/
def ResOf (w : World) (base : Nat) (v : Value) (s : St) : Prop :=
  ∃ vo vs, v = .agg #[.int .i64 s.kind, .int .i64 s.val, .int .i64 (s.steps : Int), vo, vs] ∧ w.ownsRow base 3 1 vo s.outs.length (intCells s.outs) ∧ w.ownsRow base 57 5 vs s.stops.length (snCells s.stops)
def RunPost (w : World) (r : Int × St) (e : Ending) (w' : World) : Prop :=
  ∃ v, e = .returned (.tuple #[v, .int .i64 r.1]) ∧ ResOf w' w.heap.size v r.2 ∧ Below w.heap.size w w'
theorem ResOf.zero (w : World) (base : Nat) : ResOf w base (.agg #[.int .i64 0, .int .i64 0, .int .i64 0, .slice none 0 0, .slice none 0 0]) zst :=
  ⟨_, _, rfl, World.ownsRow_nil _ _ _ _, World.ownsRow_nil _ _ _ _⟩
theorem own_weaken {w : World} {base base' : Nat} {e : TypeId} {size n : Nat} {v : Value} {xs : List Value} (h : w.ownsRow base' e size v n xs) (hb : base ≤ base') : w.ownsRow base e size v n xs := by
  refine ⟨h.1, ?_⟩
  rcases h.2 with h2 | ⟨g, cap, cur, h1, h2, h3⟩
  · exact .inl h2
  · exact .inr ⟨g, cap, cur, h1, Nat.le_trans hb h2, h3⟩

theorem start_right {xs : List Int} {P fuel : Int} (h : startE xs P fuel = 0) : (xs.length : Int) = P ∧ (∀ i, 0 ≤ nth xs i ∧ nth xs i ≤ 65535) ∧ 0 ≤ fuel ∧ fuel ≤ 100000 := by
  unfold startE at h
  by_cases hf : fitsB xs P = false
  · rw [if_pos hf] at h; cases h
  · rw [if_neg hf] at h
    have hf' : fitsB xs P = true := by simpa using hf
    unfold fitsB at hf'
    rw [Bool.and_eq_true, beq_iff_eq] at hf'
    obtain ⟨h1, h2⟩ := hf'
    refine ⟨h2, fun i => ?_, ?_⟩
    · rcases Nat.lt_or_ge i xs.length with hi | hi
      · unfold valuesTo at h1
        rw [List.all_eq_true] at h1
        have := h1 i (by rw [List.mem_range]; exact hi)
        unfold valueB at this
        simpa using this
      · rw [nth_past xs hi]; omega
    · by_cases hb : fuel < 0 ∨ 100000 < fuel
      · rw [if_pos hb] at h; cases h
      · omega

theorem HeldI.below {w w' : World} {ao : Option Addr} {xs : List Int} (h : HeldI w ao xs) (hb : Below w.heap.size w w') : HeldI w' ao xs := by
  rcases h with h | ⟨b, off, e, hB, hL⟩
  · exact .inl h
  · exact .inr ⟨b, off, e, Nat.lt_of_lt_of_le hB hb.size, fun i hi => (hb.cell (p := ⟨b, off + i, none⟩) hB).trans (hL i hi)⟩
theorem st0_ok {P R V fuel : Int} {L : List In4} {xs : List Int} (hp : RightP P R V L) (h : startE xs P fuel = 0) : StOk L V (st0 xs) := by
  have hs := start_right h
  exact ⟨fun _ => hp.n1, hs.2.1, fun _ _ => rfl, Nat.le_refl _, Nat.le_refl _, fun _ => ⟨rfl, rfl⟩, rfl⟩

theorem Tryd.size38 : (Tryd.prog.info? 38).map (·.size) = some 5 := by kernel_rfl
theorem results_res {fn : Func} {p q : Tmp} (h : fn.results = #[.cell p 38, .tmp q]) (tmps : Array Value) (w : World) (g : Nat) (cs : Array Value) (hp : tmps.getD p undef = .pointer (some ⟨g, 0, none⟩)) (hg : w.heap[g]? = some (.cells cs 38 (0, 0))) (hn : cs.size = 5) :
    (results fn tmps).run Tryd.prog w = .ok (.tuple #[.agg cs, tmps.getD q undef]) w := by
  have hp' : tmps[p]?.getD undef = .pointer (some ⟨g, 0, none⟩) := by simpa using hp
  simp [results, h, hp', asAddr, run_loadVar_row w g 38 38 cs (0, 0) _ hg Tryd.underlying38 rfl (by rw [hn]; exact Tryd.size38)]
theorem set5 {w : World} {g : Nat} {z0 z1 z2 z3 z4 : Value} (h : w.heap[g]? = some (.cells #[z0, z1, z2, z3, z4] 38 (0, 0))) (a b c d e : Value) :
    (((((w.setCell ⟨g, 0, none⟩ a).setCell ⟨g, 1, none⟩ b).setCell ⟨g, 2, none⟩ c).setCell ⟨g, 3, none⟩ d).setCell ⟨g, 4, none⟩ e).heap[g]? = some (.cells #[a, b, c, d, e] 38 (0, 0)) := by
  have h0 := heap_setCell_same w g 0 _ 38 a h
  have h1 := heap_setCell_same _ g 1 _ 38 b h0
  have h2 := heap_setCell_same _ g 2 _ 38 c h1
  have h3 := heap_setCell_same _ g 3 _ 38 d h2
  have h4 := heap_setCell_same _ g 4 _ 38 e h3
  rw [h4]; rfl
theorem below5 {B : Nat} {a w : World} {g : Nat} (h : Below B a w) (hg : B ≤ g) (v0 v1 v2 v3 v4 : Value) : Below B a (((((w.setCell ⟨g, 0, none⟩ v0).setCell ⟨g, 1, none⟩ v1).setCell ⟨g, 2, none⟩ v2).setCell ⟨g, 3, none⟩ v3).setCell ⟨g, 4, none⟩ v4) :=
  ((((h.setCell (p := ⟨g, 0, none⟩) hg _).setCell (p := ⟨g, 1, none⟩) hg _).setCell (p := ⟨g, 2, none⟩) hg _).setCell (p := ⟨g, 3, none⟩) hg _).setCell (p := ⟨g, 4, none⟩) hg _
theorem own5 {w : World} {base g : Nat} {e : TypeId} {size n : Nat} {v : Value} {xs : List Value} (h : w.ownsRow base e size v n xs) (hg : g < base) (v0 v1 v2 v3 v4 : Value) : (((((w.setCell ⟨g, 0, none⟩ v0).setCell ⟨g, 1, none⟩ v1).setCell ⟨g, 2, none⟩ v2).setCell ⟨g, 3, none⟩ v3).setCell ⟨g, 4, none⟩ v4).ownsRow base e size v n xs :=
  ownsRow_setCell_below (ownsRow_setCell_below (ownsRow_setCell_below (ownsRow_setCell_below (ownsRow_setCell_below h hg _) hg _) hg _) hg _) hg _

theorem own_slice {w : World} {base : Nat} {e : TypeId} {size n : Nat} {v : Value} {xs : List Value} (h : w.ownsRow base e size v n xs) : ∃ ao m cap, v = .slice ao m cap := by
  rcases h.2 with ⟨rfl, _⟩ | ⟨g, cap, cur, rfl, _⟩
  · exact ⟨_, _, _, rfl⟩
  · exact ⟨_, _, _, rfl⟩

def stepsOf (B : Nat) (w : World) : Nat := match w.cell? ⟨B, 20, none⟩ with | some (.int _ n) => n.toNat | _ => 0
theorem stepsOf_eq {w : World} {B : Nat} {s : St} {vo vs : Value} (h : StB w B s vo vs) : stepsOf B w = s.steps := by
  unfold stepsOf; rw [h.2.2.2.2.2.2.1]; simp

set_option maxRecDepth 100000 in
set_option maxHeartbeats 4000000 in
theorem run_any (P R V : Int) (L : List In4) (ac aa : Option Addr) (cc ca : Nat) (xs : List Int) (fuel : Int) (w : World) (hH : HeldIns w ac L) (hA : HeldI w aa xs) (hT : Tab w) (hw0 : 0 < w.heap.size) (hn : L.length ≤ 9223372036854775807) (hl : xs.length ≤ 9223372036854775807) :
    Calls Tryd.prog 13 #[.agg #[.int .i64 P, .int .i64 R, .int .i64 V, .slice ac L.length cc], .slice aa xs.length ca, .int .i64 fuel] w (RunPost w (runE P R V L xs fuel)) := by
  obtain ⟨e1, he1⟩ : ∃ e, e = (progE P R V L).1 := ⟨_, rfl⟩
  obtain ⟨e2, he2⟩ : ∃ e, e = (progE P R V L).2 := ⟨_, rfl⟩
  obtain ⟨e3, he3⟩ : ∃ e, e = startE xs P fuel := ⟨_, rfl⟩
  have KC := hide (fun w (hH : HeldIns w ac L) (hT : Tab w) (hw0 : 0 < w.heap.size) => irCheck_any P R V L ac cc w hH hn hT hw0)
  have KS := hide (fun w (hH : HeldI w aa xs) => start_any xs P fuel aa ca w hH hl)
  rw [← he1, ← he2] at KC
  rw [← he3] at KS
  have HE1 := hide he1
  have HE3 := hide he3
  have HH := hide hH
  have HA := hide hA
  have HT := hide hT
  clear he1 he2 he3 hH hA hT
  go_enter Tryd.func13, Tryd.ntmps13
  go_wp2_with fail
  obtain ⟨w1, hw1⟩ : ∃ w1, w1 = (w.alloc (.cells #[.int .i64 P, .int .i64 R, .int .i64 V, .slice ac L.length cc] 24)).alloc (.cells #[.int .i64 0, .int .i64 0, .int .i64 0, .slice none 0 0, .slice none 0 0] 38) := ⟨_, rfl⟩
  rw [← hw1]
  have hB1 : Below w.heap.size w w1 := by rw [hw1]; exact ((Below.refl _ _).alloc (Nat.le_refl _) _).alloc (by simp) _
  have hz1 : w1.heap.size = w.heap.size + 2 := by rw [hw1]; simp
  have p : ∀ i, w1.cell? ⟨w.heap.size, i, none⟩ = #[Value.int .i64 P, .int .i64 R, .int .i64 V, .slice ac L.length cc][i]? := fun i => by
    rw [hw1, World.cell?_alloc_past (hn := by simp), World.cell?_alloc_at (hn := rfl)]
  have p0 : w1.cell? ⟨w.heap.size, 0, none⟩ = some (.int .i64 P) := (p 0).trans rfl
  have p3 : w1.cell? ⟨w.heap.size, 3, none⟩ = some (.slice ac L.length cc) := (p 3).trans rfl
  have hr : w1.heap[w.heap.size + 1]? = some (.cells #[.int .i64 0, .int .i64 0, .int .i64 0, .slice none 0 0, .slice none 0 0] 38 (0, 0)) := by
    have hh := heap_alloc_new (w.alloc (.cells #[.int .i64 P, .int .i64 R, .int .i64 V, .slice ac L.length cc] 24)) (.cells #[.int .i64 0, .int .i64 0, .int .i64 0, .slice none 0 0, .slice none 0 0] 38)
    rw [show (w.alloc (.cells #[.int .i64 P, .int .i64 R, .int .i64 V, .slice ac L.length cc] 24)).heap.size = w.heap.size + 1 by simp] at hh
    rw [hw1]; exact hh
  clear hw1 p
  refine (unhide KC w1 ((unhide HH).below hB1) ((unhide HT).below hB1 hw0) (by omega)).mono ?_
  rintro e w2 ⟨rfl, hb2⟩
  have hB2 : Below w.heap.size w w2 := hB1.trans (hb2.mono (by omega))
  have q0 := (hb2.cell (p := ⟨w.heap.size, 0, none⟩) (show w.heap.size < w1.heap.size by omega)).trans p0
  have q3 := (hb2.cell (p := ⟨w.heap.size, 3, none⟩) (show w.heap.size < w1.heap.size by omega)).trans p3
  have hr2 := (hb2.block (w.heap.size + 1) (by omega)).trans hr
  have hz2 : w.heap.size + 2 ≤ w2.heap.size := by have := hb2.size; omega
  have HR2 := hide hr2
  have HB2 := hide hB2
  have r0 : w2.cell? ⟨w.heap.size + 1, 0, none⟩ = some (.int .i64 0) := (cell_of_row w2 _ 0 _ 38 (0, 0) hr2).trans rfl
  have r1 : w2.cell? ⟨w.heap.size + 1, 1, none⟩ = some (.int .i64 0) := (cell_of_row w2 _ 1 _ 38 (0, 0) hr2).trans rfl
  have r2 : w2.cell? ⟨w.heap.size + 1, 2, none⟩ = some (.int .i64 0) := (cell_of_row w2 _ 2 _ 38 (0, 0) hr2).trans rfl
  have r3 : w2.cell? ⟨w.heap.size + 1, 3, none⟩ = some (.slice none 0 0) := (cell_of_row w2 _ 3 _ 38 (0, 0) hr2).trans rfl
  have r4 : w2.cell? ⟨w.heap.size + 1, 4, none⟩ = some (.slice none 0 0) := (cell_of_row w2 _ 4 _ 38 (0, 0) hr2).trans rfl
  have rf : ∀ o, w2.frozen? ⟨w.heap.size + 1, o, none⟩ = false := fun o => by simp [World.frozen?, hr2]
  clear hb2 p0 p3 hr hr2 hB1 hz1 hB2
  by_cases h1 : e1 = 0
  case neg =>
    have h1' : (e1 != 0) = true := by rw [bne_iff_ne]; exact h1
    have he := hide (show runE P R V L xs fuel = (e1, zst) by unfold runE; rw [if_pos (by rw [← unhide HE1]; exact h1), ← unhide HE1])
    go_wp2_with fail
    refine bodyPost_ret (results_res rfl _ _ (w.heap.size + 1) _ rfl (set5 (unhide HR2) _ _ _ _ _) rfl) rfl ?_
    rw [unhide he]
    exact ⟨_, rfl, ResOf.zero _ _, below5 (unhide HB2) (Nat.le_succ _) _ _ _ _ _⟩
  subst h1
  have HP := hide (rightP_of P R V L (unhide HE1).symm)
  go_wp2_with fail
  refine (unhide KS w2 ((unhide HA).below (unhide HB2))).mono ?_
  rintro e w3 ⟨rfl, hw⟩
  rw [hw]
  clear hw w3
  by_cases h3 : e3 = 0
  case neg =>
    have h3' : (e3 != 0) = true := by rw [bne_iff_ne]; exact h3
    have he := hide (show runE P R V L xs fuel = (e3, zst) by unfold runE; rw [if_neg (by rw [← unhide HE1]; exact fun h => h rfl), if_pos (by rw [← unhide HE3]; exact h3), ← unhide HE3])
    go_wp2_with fail
    refine bodyPost_ret (results_res rfl _ _ (w.heap.size + 1) _ rfl (set5 (unhide HR2) _ _ _ _ _) rfl) rfl ?_
    rw [unhide he]
    exact ⟨_, rfl, ResOf.zero _ _, below5 (unhide HB2) (Nat.le_succ _) _ _ _ _ _⟩
  subst h3
  have hsr := start_right (unhide HE3).symm
  have HK := hide (st0_ok (unhide HP) (unhide HE3).symm)
  have he := hide (show runE P R V L xs fuel = (0, runSt L fuel.toNat (st0 xs)) by unfold runE; rw [if_neg (by rw [← unhide HE1]; exact fun h => h rfl), if_neg (by rw [← unhide HE3]; exact fun h => h rfl)])
  have hx4 : xs.length ≤ 4 := by have := (unhide HP).p4; have := hsr.1; omega
  have f0 := hsr.2.2.1
  have f1 := hsr.2.2.2
  have KB := hide (fun w (hH : HeldI w aa xs) => begin_any xs aa ca w hH hx4)
  clear hsr
  go_wp2_with fail
  refine (unhide KB w2 ((unhide HA).below (unhide HB2))).mono ?_
  rintro e w3 ⟨cs, rfl, hcs, hb3⟩
  have HCS := hide hcs
  have HB3 : Hid (Below w.heap.size w w3) := (unhide HB2).trans (hb3.mono (by omega))
  have hz3 : w.heap.size + 2 ≤ w3.heap.size := by have := hb3.size; omega
  have s3 := (hb3.cell (p := ⟨w.heap.size, 3, none⟩) (show w.heap.size < w2.heap.size by omega)).trans q3
  have HR3 := hide ((hb3.block (w.heap.size + 1) (by omega)).trans (unhide HR2))
  clear hcs hb3 q0 q3 r0 r1 r2 r3 r4 rf HR2 HB2
  go_wp2_with (refine wpList_store_row ?h1 67 ?h2 ?h3 ?h4 w3.heap.size ?h5 ?h6 ?h7 ?h8 ?h9 ?h10 ?h11 ?h12 ?h13 ?h14; case h4 => rfl)
  case h1 => rfl
  case h6 => rfl
  case h7 => rfl
  case h10 => exact heap_alloc_new _ _
  case h11 => rw [(unhide HCS).1]; exact Tryd.size67
  case h12 => rw [(unhide HCS).1]; rfl
  case h13 => exact (unhide HCS).plain
  rw [World.setRow_alloc_new]
  obtain ⟨w4, hw4⟩ : ∃ w4, w4 = w3.alloc (.cells cs 67) := ⟨_, rfl⟩
  rw [← hw4]
  have hg4 : w4.heap[w3.heap.size]? = some (.cells cs 67 (0, 0)) := by rw [hw4]; exact heap_alloc_new _ _
  have HI4 : Hid (Inv w4 w3.heap.size (st0 xs) (.slice none 0 0) (.slice none 0 0)) := ⟨(unhide HCS).stb rfl hg4, World.ownsRow_nil _ _ _ _, World.ownsRow_nil _ _ _ _⟩
  have HB4 : Hid (Below w.heap.size w w4) := by rw [hw4]; exact (unhide HB3).alloc (by omega) _
  have hz4 : w4.heap.size = w3.heap.size + 1 := by rw [hw4]; simp
  have t3 : w4.cell? ⟨w.heap.size, 3, none⟩ = some (.slice ac L.length cc) := by rw [hw4, World.cell?_alloc_past (hn := by omega)]; exact s3
  have HR4 : Hid (w4.heap[w.heap.size + 1]? = some (.cells #[.int .i64 0, .int .i64 0, .int .i64 0, .slice none 0 0, .slice none 0 0] 38 (0, 0))) := by rw [hw4]; exact (Below.heap_alloc _ _ _ (by omega)).trans (unhide HR3)
  clear hw4 hg4 s3 HR3 HB3
  obtain ⟨b, off, rfl, hb, HL⟩ : ∃ b off, ac = some ⟨b, off, none⟩ ∧ b < w.heap.size ∧ Hid (LieI w b off L) := by
    rcases unhide HH with h | h
    · have := (unhide HP).n1; rw [h] at this; exact absurd this (by decide)
    · exact h
  have hl1 := (unhide HP).n1
  have hl40 := (unhide HP).n40
  go_wp2_with fail
  simp only [Act.put]
  go_loopw [41] (fun _ wr => ∃ (s : St) (vo vs : Value), Hid (Inv wr w3.heap.size s vo vs) ∧ Hid (runSt L fuel.toNat (st0 xs) = runSt L (fuel.toNat - s.steps) s) ∧ s.steps ≤ fuel.toNat ∧ Hid (StOk L V s) ∧ Hid (Below w3.heap.size w4 wr)) (fun _ wr => fuel.toNat - stepsOf w3.heap.size wr)
  case atStart => exact ⟨st0 xs, _, _, unhide HI4, rfl, Nat.zero_le _, unhide HK, Below.refl _ _⟩
  case round =>
    obtain ⟨s, vo, vs, HI, HC, hst, HO, HB⟩ := hrel
    have c16 : wr.cell? ⟨w3.heap.size, 16, none⟩ = some (.int .i64 (s.at_ : Int)) := (unhide HI).1.2.2.1
    have c17 : wr.cell? ⟨w3.heap.size, 17, none⟩ = some (.bool s.on) := (unhide HI).1.2.2.2.1
    have c18 : wr.cell? ⟨w3.heap.size, 18, none⟩ = some (.int .i64 s.kind) := (unhide HI).1.2.2.2.2.1
    have c19 : wr.cell? ⟨w3.heap.size, 19, none⟩ = some (.int .i64 s.val) := (unhide HI).1.2.2.2.2.2.1
    have c20 : wr.cell? ⟨w3.heap.size, 20, none⟩ = some (.int .i64 (s.steps : Int)) := (unhide HI).1.2.2.2.2.2.2.1
    have c21 : wr.cell? ⟨w3.heap.size, 21, none⟩ = some vo := (unhide HI).1.2.2.2.2.2.2.2.1
    have c22 : wr.cell? ⟨w3.heap.size, 22, none⟩ = some vs := (unhide HI).1.2.2.2.2.2.2.2.2.1
    have u3 := ((unhide HB).cell (p := ⟨w.heap.size, 3, none⟩) (show w.heap.size < w3.heap.size by omega)).trans t3
    have HBr : Hid (Below w.heap.size w wr) := (unhide HB4).trans ((unhide HB).mono (by omega))
    have hr := ((unhide HB).block (w.heap.size + 1) (by omega)).trans (unhide HR4)
    have HRr := hide hr
    have r0 : wr.cell? ⟨w.heap.size + 1, 0, none⟩ = some (.int .i64 0) := (cell_of_row wr _ 0 _ 38 (0, 0) hr).trans rfl
    have r1 : wr.cell? ⟨w.heap.size + 1, 1, none⟩ = some (.int .i64 0) := (cell_of_row wr _ 1 _ 38 (0, 0) hr).trans rfl
    have r2 : wr.cell? ⟨w.heap.size + 1, 2, none⟩ = some (.int .i64 0) := (cell_of_row wr _ 2 _ 38 (0, 0) hr).trans rfl
    have r3 : wr.cell? ⟨w.heap.size + 1, 3, none⟩ = some (.slice none 0 0) := (cell_of_row wr _ 3 _ 38 (0, 0) hr).trans rfl
    have r4 : wr.cell? ⟨w.heap.size + 1, 4, none⟩ = some (.slice none 0 0) := (cell_of_row wr _ 4 _ 38 (0, 0) hr).trans rfl
    have rf : ∀ o, wr.frozen? ⟨w.heap.size + 1, o, none⟩ = false := fun o => by simp [World.frozen?, hr]
    clear hr
    by_cases hgo : s.on = true ∧ s.steps < fuel.toNat
    · obtain ⟨hon, hlt⟩ := hgo
      have hlt' : (s.steps : Int) < fuel := by omega
      have hat := (unhide HO).at_ hon
      obtain ⟨x, hx⟩ : ∃ x, x = inAt L s.at_ := ⟨_, rfl⟩
      have hAx := (unhide HL s.at_ hat).below (unhide HBr) hb
      rw [← hx] at hAx
      obtain ⟨x0, x1, x2, x3⟩ := hAx
      have hso := step_ok (unhide HP) (unhide HO) hon
      have KT := hide (step_any w3.heap.size s vo vs x R L.length V wr (unhide HI) (by rw [hx]; exact (unhide HP).ins s.at_ hat) (by rw [hx]; exact (unhide HP).low s.at_ hat) (unhide HO).env (unhide HP).r12 (unhide HP).v4 (fun i _ => (unhide HO).regs i) (by omega) (by omega) (by have := (unhide HO).outs; omega) (by have := (unhide HO).stops; omega))
      have hn := hide (show runSt L fuel.toNat (st0 xs) = runSt L (fuel.toNat - (stepSt x s).steps) (stepSt x s) by
        rw [unhide HC, run_on (by omega) hon, hx, hso.2, Nat.sub_sub])
      rw [← hx] at hso
      have HSO := hide hso
      have HX := hide hx
      rw [hon] at c17
      clear hso hx r0 r1 r2 r3 r4 rf c18 c19 c21 c22 hon
      go_wp2_with fail
      refine (unhide KT).mono ?_
      rintro e w5 ⟨rfl, ⟨vo', vs', hI5⟩, hb5⟩
      have HI5 := hide hI5
      have HB5 := hide ((unhide HB).trans hb5)
      have h5 := (unhide HSO).2
      have hm := stepsOf_eq hI5.1
      have hm0 := stepsOf_eq (unhide HI).1
      have HM := hide hm
      have HM0 := hide hm0
      clear hI5 hb5 hm hm0 KT
      go_wp2_with fail
      go_roundw
      case rel => exact ⟨stepSt x s, vo', vs', unhide HI5, unhide hn, by omega, (unhide HSO).1, unhide HB5⟩
      case measure => rw [unhide HM, unhide HM0, h5]; omega
    · have hend := hide (show runSt L fuel.toNat (st0 xs) = s by
        rw [unhide HC]
        cases hon : s.on with
        | false => exact run_off _ _ _ hon
        | true =>
          rw [show fuel.toNat - s.steps = 0 by
            rcases Nat.lt_or_ge s.steps fuel.toNat with h | h
            · exact absurd ⟨hon, h⟩ hgo
            · omega]
          rfl)
      have HOo := hide (unhide HI).2.1
      have HOs := hide (unhide HI).2.2
      have hcase : s.on = false ∨ (s.on = true ∧ fuel ≤ (s.steps : Int)) := by
        cases hon : s.on with
        | false => exact .inl rfl
        | true => exact .inr ⟨rfl, by
            rcases Nat.lt_or_ge s.steps fuel.toNat with h | h
            · exact absurd ⟨hon, h⟩ hgo
            · omega⟩
      clear hgo
      obtain ⟨ao, no, co, rfl⟩ := own_slice (unhide HOo)
      obtain ⟨az, ns, cz, rfl⟩ := own_slice (unhide HOs)
      rcases hcase with hon | ⟨hon, hf⟩
      all_goals
        rw [hon] at c17
        clear hon
        go_wp2_with fail
        refine bodyPost_ret (results_res rfl _ _ (w.heap.size + 1) _ rfl (set5 (unhide HRr) _ _ _ _ _) rfl) rfl ?_
        rw [unhide he, unhide hend]
        exact ⟨_, rfl, ⟨_, _, rfl, own_weaken (own5 (unhide HOo) (by omega) _ _ _ _ _) (by omega), own_weaken (own5 (unhide HOs) (by omega) _ _ _ _ _) (by omega)⟩, below5 (unhide HBr) (Nat.le_succ _) _ _ _ _ _⟩
end Go.Proofs.YtoepcplbpochpabDoor

/-
  Plain mathematics of a unit's run: what a table tells at a place; what a right unit keeps to, and that a run of it stays within.
-/
namespace Go.Proofs.YtoepcplbpochpabDoor
open Go.RowKit

/-- What the place of a range holds. -/
def heldE (regs slots : Nat → Int) (r : Rg) : Int := if r.k = 0 then regs r.a.toNat else if r.k = 1 then slots r.a.toNat else r.a
/-- Does a range tell of the variable v at the place i? -/
def Hits (r : Rg) (i v : Nat) : Prop := r.v = (v : Int) ∧ r.f ≤ (i : Int) ∧ (i : Int) < r.t
def decHits (r : Rg) (i v : Nat) : Decidable (Hits r i v) := by unfold Hits; exact inferInstance
/-- What the first range that tells of it tells. -/
def toldFrom (R : List Rg) (regs slots : Nat → Int) (i v k : Nat) : Nat → Int
  | 0 => -1
  | m + 1 => @ite _ (Hits (rg R k) i v) (decHits _ _ _) (heldE regs slots (rg R k)) (toldFrom R regs slots i v (k + 1) m)
def toldE (R : List Rg) (regs slots : Nat → Int) (i v : Nat) : Int := toldFrom R regs slots i v 0 R.length
/-- What the last range that tells of it, of the first k, tells. -/
def toldTo (R : List Rg) (regs slots : Nat → Int) (i v : Nat) : Nat → Int
  | 0 => -1
  | k + 1 => @ite _ (Hits (rg R k) i v) (decHits _ _ _) (heldE regs slots (rg R k)) (toldTo R regs slots i v k)
theorem told_here {R : List Rg} {regs slots : Nat → Int} {i v k : Nat} (hk : k < R.length) (h : Hits (rg R k) i v) : toldFrom R regs slots i v k (R.length - k) = heldE regs slots (rg R k) := by
  obtain ⟨m, hm⟩ : ∃ m, R.length - k = m + 1 := ⟨R.length - k - 1, by omega⟩
  rw [hm]; exact @if_pos _ (decHits _ _ _) h _ _ _
theorem told_on {R : List Rg} {regs slots : Nat → Int} {i v k : Nat} (hk : k < R.length) (h : ¬ Hits (rg R k) i v) : toldFrom R regs slots i v k (R.length - k) = toldFrom R regs slots i v (k + 1) (R.length - (k + 1)) := by
  obtain ⟨m, hm⟩ : ∃ m, R.length - k = m + 1 := ⟨R.length - k - 1, by omega⟩
  rw [hm, show R.length - (k + 1) = m by omega]; exact @if_neg _ (decHits _ _ _) h _ _ _
theorem toldTo_hit {R : List Rg} {regs slots : Nat → Int} {i v k : Nat} (h : Hits (rg R k) i v) : toldTo R regs slots i v (k + 1) = heldE regs slots (rg R k) := @if_pos _ (decHits _ _ _) h _ _ _
theorem toldTo_miss {R : List Rg} {regs slots : Nat → Int} {i v k : Nat} (h : ¬ Hits (rg R k) i v) : toldTo R regs slots i v (k + 1) = toldTo R regs slots i v k := @if_neg _ (decHits _ _ _) h _ _ _

theorem hits_once {R : List Rg} (ht : isTab R = true) {i v j k : Nat} (hk : k < R.length) (hj : j < k) (h1 : Hits (rg R j) i v) (h2 : Hits (rg R k) i v) : False := by
  unfold isTab at ht
  rw [Bool.and_eq_true] at ht
  have h := tab_before ht.2 k hk j hj
  unfold before at h
  obtain ⟨a1, a2, a3⟩ := h1
  obtain ⟨b1, b2, b3⟩ := h2
  omega
theorem told_none {R : List Rg} {regs slots : Nat → Int} {i v : Nat} : ∀ m k, (∀ j, k ≤ j → j < k + m → ¬ Hits (rg R j) i v) → toldFrom R regs slots i v k m = -1
  | 0, _, _ => rfl
  | m + 1, k, h => by
    have h0 := h k (Nat.le_refl _) (by omega)
    show @ite _ (Hits (rg R k) i v) (decHits _ _ _) _ _ = _
    rw [@if_neg _ (decHits _ _ _) h0]
    exact told_none m (k + 1) (fun j h1 h2 => h j (by omega) (by omega))
/-- In a table the first and the last are one. -/
theorem told_same {R : List Rg} (ht : isTab R = true) {regs slots : Nat → Int} {i v : Nat} : ∀ k, k ≤ R.length → (∀ j, j < k → ¬ Hits (rg R j) i v) ∧ toldTo R regs slots i v k = -1 ∨ ∃ j, j < k ∧ Hits (rg R j) i v ∧ toldTo R regs slots i v k = heldE regs slots (rg R j)
  | 0, _ => .inl ⟨fun j hj => by omega, rfl⟩
  | k + 1, hk => by
    rcases told_same ht k (by omega) (regs := regs) (slots := slots) with ⟨h1, h2⟩ | ⟨j, hj, h1, h2⟩
    · rcases Classical.em (Hits (rg R k) i v) with h | h
      · exact .inr ⟨k, by omega, h, toldTo_hit h⟩
      · refine .inl ⟨fun j hj => ?_, (toldTo_miss h).trans h2⟩
        by_cases e : j = k
        · subst e; exact h
        · exact h1 j (by omega)
    · exact .inr ⟨j, by omega, h1, (toldTo_miss (fun h => hits_once ht (by omega) hj h1 h)).trans h2⟩
theorem told_first {R : List Rg} (ht : isTab R = true) {regs slots : Nat → Int} {i v j : Nat} (hj : j < R.length) (h : Hits (rg R j) i v) : ∀ m k, k + m = j → toldFrom R regs slots i v k (R.length - k) = heldE regs slots (rg R j)
  | 0, k, hk => by obtain rfl : k = j := by omega
                   exact told_here hj h
  | m + 1, k, hk => by
    rw [told_on (by omega) (fun h' => hits_once ht hj (show k < j by omega) h' h)]
    exact told_first ht hj h m (k + 1) (by omega)
theorem told_eq {R : List Rg} (ht : isTab R = true) (regs slots : Nat → Int) (i v : Nat) : toldTo R regs slots i v R.length = toldE R regs slots i v := by
  rcases told_same ht R.length (Nat.le_refl _) (regs := regs) (slots := slots) (i := i) (v := v) with ⟨h1, h2⟩ | ⟨j, hj, h1, h2⟩
  · rw [h2]; exact (told_none R.length 0 (fun j _ hj => h1 j (by omega))).symm
  · rw [h2]; exact (told_first ht hj h1 j 0 (by omega)).symm

/-- What a unit's run has for good. -/
def unitEnv (R : List Rg) (tv : Option Value) : Env := ⟨16, 2, fun o => if o = 39 then tv else none, toldE R⟩

theorem right_of_insU (x : In4) (K n S : Int) (h : insE false x K n 0 S = 0) : Right K n S x ∧ (x.op ≤ 11 ∨ 15 ≤ x.op) := by
  unfold insE at h
  by_cases ho : ¬ (0 ≤ x.op ∧ x.op < 17 ∧ opB false x.op.toNat = true)
  · rw [if_pos ho] at h; cases h
  rw [if_neg ho] at h
  have ho' := Classical.not_not.1 ho
  obtain ⟨o0, o17, ob⟩ := ho'
  obtain ⟨o, hop⟩ : ∃ o : Nat, x.op = (o : Int) := ⟨x.op.toNat, by omega⟩
  rw [hop, Int.toNat_natCast] at h ob
  have ho14 : o < 12 ∨ o = 15 ∨ o = 16 := by
    rcases (show o < 12 ∨ o = 12 ∨ o = 13 ∨ o = 14 ∨ o = 15 ∨ o = 16 by omega) with h | rfl | rfl | rfl | h | h
    · exact .inl h
    · cases ob
    · cases ob
    · cases ob
    · exact .inr (.inl h)
    · exact .inr (.inr h)
  have key : ∀ a b c : Int, (if a ≠ 0 then a else if b ≠ 0 then b else c) = 0 → a = 0 ∧ b = 0 ∧ c = 0 := fun a b c h => by
    by_cases ha : a = 0
    · by_cases hb : b = 0
      · rw [if_neg (fun k => k ha), if_neg (fun k => k hb)] at h; exact ⟨ha, hb, h⟩
      · rw [if_neg (fun k => k ha), if_pos hb] at h; exact absurd h hb
    · rw [if_pos ha] at h; exact absurd h ha
  obtain ⟨h1, h2, h3⟩ := key _ _ _ h
  clear h key ho ob
  obtain ⟨op, d, a, b⟩ := x
  simp only at *
  subst hop
  have f0 : ∀ (m r k v s : Int), fieldE 114 m r k v s = 0 → 0 ≤ m ∧ m < r := fun m r k v s h => by
    unfold fieldE at h; simp at h; omega
  have fc : ∀ (m r k v s : Int), fieldE 99 m r k v s = 0 → 0 ≤ m ∧ m ≤ 65535 := fun m r k v s h => by
    unfold fieldE at h; simp at h; omega
  have ft : ∀ (m r k v s : Int), fieldE 116 m r k v s = 0 → 0 ≤ m ∧ m < k := fun m r k v s h => by
    unfold fieldE at h; simp at h; omega
  have fs : ∀ (m r k v s : Int), fieldE 115 m r k v s = 0 → 0 ≤ m ∧ m ≤ 99 := fun m r k v s h => by
    unfold fieldE at h; simp at h; omega
  have ff : ∀ (m r k v s : Int), fieldE 102 m r k v s = 0 → 0 ≤ m ∧ m < s := fun m r k v s h => by
    unfold fieldE at h; simp at h; omega
  unfold Right
  simp only
  rcases (show o = 0 ∨ o = 1 ∨ o = 2 ∨ o = 3 ∨ o = 4 ∨ o = 5 ∨ o = 6 ∨ o = 7 ∨ o = 8 ∨ o = 9 ∨ o = 10 ∨ o = 11 ∨ o = 15 ∨ o = 16 by omega) with rfl | rfl | rfl | rfl | rfl | rfl | rfl | rfl | rfl | rfl | rfl | rfl | rfl | rfl
  · have g1 := f0 _ _ _ _ _ h1; have g2 := fc _ _ _ _ _ h2; omega
  · have g1 := f0 _ _ _ _ _ h1; have g2 := f0 _ _ _ _ _ h2; omega
  · have g1 := f0 _ _ _ _ _ h1; have g2 := f0 _ _ _ _ _ h2; have g3 := f0 _ _ _ _ _ h3; omega
  · have g1 := f0 _ _ _ _ _ h1; have g2 := f0 _ _ _ _ _ h2; have g3 := f0 _ _ _ _ _ h3; omega
  · have g1 := f0 _ _ _ _ _ h1; have g2 := f0 _ _ _ _ _ h2; have g3 := f0 _ _ _ _ _ h3; omega
  · have g1 := f0 _ _ _ _ _ h1; have g2 := f0 _ _ _ _ _ h2; have g3 := f0 _ _ _ _ _ h3; omega
  · have g1 := f0 _ _ _ _ _ h1; have g2 := f0 _ _ _ _ _ h2; have g3 := f0 _ _ _ _ _ h3; omega
  · have g2 := ft _ _ _ _ _ h2; omega
  · have g2 := f0 _ _ _ _ _ h2; have g3 := ft _ _ _ _ _ h3; omega
  · have g2 := f0 _ _ _ _ _ h2; omega
  · have g2 := f0 _ _ _ _ _ h2; omega
  · have g2 := fs _ _ _ _ _ h2; omega
  · have g1 := f0 _ _ _ _ _ h1; have g2 := ff _ _ _ _ _ h2; omega
  · have g1 := ff _ _ _ _ _ h1; have g2 := f0 _ _ _ _ _ h2; omega

/-- What a right unit keeps to. -/
structure RightU (K S P V : Int) (L : List In4) (R : List Rg) : Prop where
  k2 : 2 ≤ K
  k16 : K ≤ 16
  s0 : 0 ≤ S
  s16 : S ≤ 16
  p0 : 0 ≤ P
  p4 : P ≤ 4
  ps : P ≤ S
  v4 : V ≤ 4
  n1 : 1 ≤ L.length
  n164 : L.length ≤ 164
  ins : ∀ i, i < L.length → Right K L.length S (inAt L i)
  last : (inAt L (L.length - 1)).op = 7 ∨ (inAt L (L.length - 1)).op = 10
  low : ∀ i, i < L.length → (inAt L i).op ≤ 11 ∨ 15 ≤ (inAt L i).op
  tab : isTab R = true
  rgs : ∀ i, i < R.length → RgIn K S V L.length (rg R i)
theorem rightU_of (K S P V : Int) (L : List In4) (T : ByteArray) (h : (unitE K S P V L T).1 = 0) : ∃ R, TabS T R ∧ RightU K S P V L R := by
  by_cases hs : UnitBad K S P V L.length
  · rw [unitE_bad hs] at h; cases h
  · rw [unitE_good hs] at h
    by_cases hc : (codedE false L K 0 S).1 ≠ 0
    · rw [if_pos hc] at h; exact absurd h hc
    · rw [if_neg hc] at h
      have hc' := Classical.not_not.1 hc
      cases htb : tabB T K S V L.length with
      | false => rw [htb] at h; cases h
      | true =>
        obtain ⟨R, h1, h2⟩ := tabB_true htb
        obtain ⟨h3, h4⟩ := codedFrom_ok false L K 0 S L.length 0 (by omega) hc'
        obtain ⟨g1, g2, g3, g4, g5, g6, g7, g8, g9, g10, g11⟩ := unit_good hs
        exact ⟨R, h1, g1, g2, g3, g4, g5, g6, g7, g9, g10, g11, fun i hi => (right_of_insU _ _ _ _ (h3 i (Nat.zero_le _) hi)).1, h4, fun i hi => (right_of_insU _ _ _ _ (h3 i (Nat.zero_le _) hi)).2, h1.1, h2⟩

/-- What a unit's run keeps to. -/
structure StOkU (L : List In4) (s : St) : Prop where
  at_ : s.on = true → s.at_ < L.length
  regs : ∀ i, 0 ≤ s.regs i ∧ s.regs i ≤ 65535
  vars : ∀ i, 0 ≤ s.vars i ∧ s.vars i ≤ 65535
  outs : s.outs.length ≤ s.steps
  stops : s.stops.length ≤ s.steps
  kind : s.on = true → s.kind = 2 ∧ s.val = 0

set_option maxHeartbeats 2000000 in
/-- A step keeps to it, and counts one. -/
theorem stepU_ok {K S P V : Int} {L : List In4} {R : List Rg} (hp : RightU K S P V L R) {s : St} (h : StOkU L s) (hon : s.on = true) : StOkU L (stepSt (inAt L s.at_) s) ∧ (stepSt (inAt L s.at_) s).steps = s.steps + 1 ∧ (stepSt (inAt L s.at_) s).env = s.env := by
  have hat := h.at_ hon
  have hx := hp.ins s.at_ hat
  have hlow := hp.low s.at_ hat
  have hlast := hp.last
  obtain ⟨x, hxe⟩ : ∃ x, x = inAt L s.at_ := ⟨_, rfl⟩
  have hne : x.op ≠ 7 → x.op ≠ 10 → s.at_ + 1 < L.length := fun h7 h10 => by
    rcases Nat.lt_or_ge (s.at_ + 1) L.length with h | h
    · exact h
    · exfalso
      have : L.length - 1 = s.at_ := by omega
      rw [this, ← hxe] at hlast
      rcases hlast with h | h
      · exact h7 h
      · exact h10 h
  rw [← hxe] at hx hlow ⊢
  clear hlast hxe
  obtain ⟨o0, o16, rD, rA, rB, rC, rJ, rI, rS, _, rL, rT⟩ := hx
  have hk := h.kind hon
  have hok : ∀ s' : St, (s'.on = true → s'.at_ < L.length) → (∀ i, 0 ≤ s'.regs i ∧ s'.regs i ≤ 65535) → (∀ i, 0 ≤ s'.vars i ∧ s'.vars i ≤ 65535) → s'.outs.length ≤ s'.steps → s'.stops.length ≤ s'.steps → (s'.on = true → s'.kind = 2 ∧ s'.val = 0) → s'.steps = s.steps + 1 → s'.env = s.env → StOkU L s' ∧ s'.steps = s.steps + 1 ∧ s'.env = s.env :=
    fun s' a b c d e f g k => ⟨⟨a, b, c, d, e, f⟩, g, k⟩
  have ho := h.outs
  have hs := h.stops
  unfold stepSt
  have pre0 : x.op ≤ 10 → preSt x s = s := fun hl => by
    unfold preSt; rw [if_neg (by omega), if_neg (by omega), if_neg (by omega), if_neg (by omega), if_neg (by omega), if_neg (by omega)]
  rcases (show x.op = 0 ∨ x.op = 1 ∨ (2 ≤ x.op ∧ x.op ≤ 6) ∨ x.op = 7 ∨ x.op = 8 ∨ x.op = 9 ∨ x.op = 10 ∨ x.op = 11 ∨ x.op = 15 ∨ x.op = 16 by omega) with e | e | e | e | e | e | e | e | e | e
  · have : doSt x (preSt x s) = s.next.reg x.d.toNat x.a := by
      rw [pre0 (by omega)]; unfold doSt; rw [if_pos e]
    rw [this]
    exact hok _ (fun _ => hne (by omega) (by omega)) (upd_ok _ _ _ h.regs (rC (.inl e))) h.vars (Nat.le_succ_of_le ho) (Nat.le_succ_of_le hs) (fun _ => hk) rfl rfl
  · have : doSt x (preSt x s) = s.next.reg x.d.toNat (s.regs x.a.toNat) := by
      rw [pre0 (by omega)]; unfold doSt; rw [if_neg (by omega), if_pos e]
    rw [this]
    exact hok _ (fun _ => hne (by omega) (by omega)) (upd_ok _ _ _ h.regs (h.regs _)) h.vars (Nat.le_succ_of_le ho) (Nat.le_succ_of_le hs) (fun _ => hk) rfl rfl
  · have : doSt x (preSt x s) = s.next.reckon x.op x.d.toNat x.a.toNat x.b.toNat := by
      rw [pre0 (by omega)]; unfold doSt
      rw [if_neg (by omega), if_neg (by omega), if_neg (by omega), if_neg (by omega), if_neg (by omega), if_neg (by omega), if_pos e]
    rw [this]
    unfold St.reckon
    rcases reach_ok x.op (s.regs x.a.toNat) (s.regs x.b.toNat) (h.regs _) (h.regs _) with hr | hr
    · rw [if_pos (by show reachE x.op (s.regs x.a.toNat) (s.regs x.b.toNat) < 0; omega)]
      exact hok _ (fun k => by cases k) h.regs h.vars (Nat.le_succ_of_le ho) (Nat.le_succ_of_le hs) (fun k => by cases k) rfl rfl
    · rw [if_neg (by show ¬ reachE x.op (s.regs x.a.toNat) (s.regs x.b.toNat) < 0; omega)]
      exact hok _ (fun _ => hne (by omega) (by omega)) (upd_ok _ _ _ h.regs hr) h.vars (Nat.le_succ_of_le ho) (Nat.le_succ_of_le hs) (fun _ => hk) rfl rfl
  · have : doSt x (preSt x s) = s.next.goto x.a.toNat := by
      rw [pre0 (by omega)]; unfold doSt; rw [if_neg (by omega), if_neg (by omega), if_pos e]
    rw [this]
    exact hok _ (fun _ => by have := rJ e; show x.a.toNat < L.length; omega) h.regs h.vars (Nat.le_succ_of_le ho) (Nat.le_succ_of_le hs) (fun _ => hk) rfl rfl
  · have : doSt x (preSt x s) = if s.regs x.a.toNat = 0 then s.next else s.next.goto x.b.toNat := by
      rw [pre0 (by omega)]; unfold doSt; rw [if_neg (by omega), if_neg (by omega), if_neg (by omega), if_pos e]
    rw [this]
    by_cases hz : s.regs x.a.toNat = 0
    · rw [if_pos hz]
      exact hok _ (fun _ => hne (by omega) (by omega)) h.regs h.vars (Nat.le_succ_of_le ho) (Nat.le_succ_of_le hs) (fun _ => hk) rfl rfl
    · rw [if_neg hz]
      exact hok _ (fun _ => by have := rI e; show x.b.toNat < L.length; omega) h.regs h.vars (Nat.le_succ_of_le ho) (Nat.le_succ_of_le hs) (fun _ => hk) rfl rfl
  · have : doSt x (preSt x s) = s.next.out (s.regs x.a.toNat) := by
      rw [pre0 (by omega)]; unfold doSt; rw [if_neg (by omega), if_neg (by omega), if_neg (by omega), if_neg (by omega), if_pos e]
    rw [this]
    exact hok _ (fun _ => hne (by omega) (by omega)) h.regs h.vars (by show (s.outs ++ [_]).length ≤ s.steps + 1; rw [List.length_append]; exact Nat.succ_le_succ ho) (Nat.le_succ_of_le hs) (fun _ => hk) rfl rfl
  · have : doSt x (preSt x s) = s.next.ended 0 (s.regs x.a.toNat) := by
      rw [pre0 (by omega)]; unfold doSt; rw [if_neg (by omega), if_neg (by omega), if_neg (by omega), if_neg (by omega), if_neg (by omega), if_pos e]
    rw [this]
    exact hok _ (fun k => by cases k) h.regs h.vars (Nat.le_succ_of_le ho) (Nat.le_succ_of_le hs) (fun k => by cases k) rfl rfl
  all_goals
    have hd : ∀ s', doSt x s' = s'.next := fun s' => by
      unfold doSt; rw [if_neg (by omega), if_neg (by omega), if_neg (by omega), if_neg (by omega), if_neg (by omega), if_neg (by omega), if_neg (by omega)]
    rw [hd]
    unfold preSt
  · rw [if_pos e]
    exact hok _ (fun _ => hne (by omega) (by omega)) h.regs h.vars (Nat.le_succ_of_le ho) (by show (s.stops ++ [_]).length ≤ s.steps + 1; rw [List.length_append]; exact Nat.succ_le_succ hs) (fun _ => hk) rfl rfl
  · rw [if_neg (by omega), if_neg (by omega), if_neg (by omega), if_neg (by omega), if_pos e]
    exact hok _ (fun _ => hne (by omega) (by omega)) (upd_ok _ _ _ h.regs (h.vars _)) h.vars (Nat.le_succ_of_le ho) (Nat.le_succ_of_le hs) (fun _ => hk) rfl rfl
  · rw [if_neg (by omega), if_neg (by omega), if_neg (by omega), if_neg (by omega), if_neg (by omega), if_pos e]
    exact hok _ (fun _ => hne (by omega) (by omega)) h.regs (upd_ok _ _ _ h.vars (h.regs _)) (Nat.le_succ_of_le ho) (Nat.le_succ_of_le hs) (fun _ => hk) rfl rfl

/-- A unit's run begins. -/
def stU (R : List Rg) (tv : Option Value) (xs : List Int) : St := ⟨0, fun _ => 0, nth xs, true, 2, 0, 0, [], [], unitEnv R tv⟩
theorem stU_ok {K S P V fuel : Int} {L : List In4} {R : List Rg} {xs : List Int} (hp : RightU K S P V L R) (tv : Option Value) (h : startE xs P fuel = 0) : StOkU L (stU R tv xs) := by
  have hs := start_right h
  exact ⟨fun _ => hp.n1, fun _ => ⟨Int.le_refl _, by show (0 : Int) ≤ 65535; decide⟩, hs.2.1, Nat.le_refl _, Nat.le_refl _, fun _ => ⟨rfl, rfl⟩⟩

/-- What stands behind the slots in the program's own run changes nothing. -/
def St.plain (s : St) : St := { s with env := { s.env with ex := fun _ => none } }
theorem reckon_plain (s : St) (op : Int) (d a b : Nat) : (s.reckon op d a b).plain = s.plain.reckon op d a b := by
  unfold St.reckon
  show (if reachE op (s.regs a) (s.regs b) < 0 then _ else _ : St).plain = if reachE op (s.regs a) (s.regs b) < 0 then _ else _
  by_cases h : reachE op (s.regs a) (s.regs b) < 0
  · rw [if_pos h, if_pos h]; rfl
  · rw [if_neg h, if_neg h]; rfl
theorem step_plain (x : In4) (s : St) : (stepSt x s).plain = stepSt x s.plain := by
  unfold stepSt
  have h1 : (preSt x s).plain = preSt x s.plain := by
    unfold preSt
    repeat' split
    all_goals rfl
  rw [← h1]
  generalize preSt x s = s1
  unfold doSt
  repeat' split
  all_goals first | rfl | exact reckon_plain _ _ _ _ _ | (exfalso; simp_all [St.plain]; done)
theorem run_plain (L : List In4) : ∀ (m : Nat) (s : St), (runSt L m s).plain = runSt L m s.plain
  | 0, _ => rfl
  | m + 1, s => by
    show (if s.on then _ else _ : St).plain = if s.on then _ else _
    cases s.on with
    | false => rfl
    | true => show (runSt L m (stepSt (inAt L s.at_) s)).plain = runSt L m (stepSt (inAt L s.at_) s.plain); rw [run_plain L m, step_plain]
theorem stU_plain (R : List Rg) (tv : Option Value) (xs : List Int) : (stU R tv xs).plain = stU R none xs := by
  unfold St.plain stU unitEnv
  simp

/-- The answer of a unit's run: its error, and what it came to. -/
noncomputable def runU (K S P V : Int) (L : List In4) (T : ByteArray) (R : List Rg) (xs : List Int) (fuel : Int) : Int × St :=
  if (unitE K S P V L T).1 ≠ 0 then ((unitE K S P V L T).1, zst) else if startE xs P fuel ≠ 0 then (startE xs P fuel, zst) else (0, runSt L fuel.toNat (stU R none xs))
end Go.Proofs.YtoepcplbpochpabDoor
