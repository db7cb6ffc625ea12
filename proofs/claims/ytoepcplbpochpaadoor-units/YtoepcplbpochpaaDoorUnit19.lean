/-
  What ir.Run answers: the error, and the whole result, in memory of its own.
-/
import Derived.Test.YtoepcplbpochpaaDoorUnit13
import Derived.Test.YtoepcplbpochpaaDoorUnit14
import Derived.Test.YtoepcplbpochpaaDoorUnit18
import Derived.Test.YtoepcplbpochpaaDoorUnit3

namespace Go.Proofs.YtoepcplbpochpaaDoor
open Go.RowKit

/-- The answer of a run: its error and what it came to. -/
def runE (P R V : Int) (L : List In4) (xs : List Int) (fuel : Int) : Int × St :=
  if (progE P R V L).1 ≠ 0 then ((progE P R V L).1, zst) else if startE xs P fuel ≠ 0 then (startE xs P fuel, zst) else (0, runSt L fuel.toNat (st0 xs))
/-- A result in memory. -/
def ResOf (w : World) (base : Nat) (v : Value) (s : St) : Prop :=
  ∃ vo vs, v = .agg #[.int .i64 s.kind, .int .i64 s.val, .int .i64 (s.steps : Int), vo, vs] ∧ w.ownsRow base 3 1 vo s.outs.length (intCells s.outs) ∧ w.ownsRow base 63 5 vs s.stops.length (snCells s.stops)
def RunPost (w : World) (r : Int × St) (e : Ending) (w' : World) : Prop :=
  ∃ v, e = .returned (.tuple #[v, .int .i64 r.1]) ∧ ResOf w' w.heap.size v r.2 ∧ Below w.heap.size w w'
theorem ResOf.zero (w : World) (base : Nat) : ResOf w base (.agg #[.int .i64 0, .int .i64 0, .int .i64 0, .slice none 0 0, .slice none 0 0]) zst :=
  ⟨_, _, rfl, World.ownsRow_nil _ _ _ _, World.ownsRow_nil _ _ _ _⟩
theorem own_weaken {w : World} {base base' : Nat} {e : TypeId} {size n : Nat} {v : Value} {xs : List Value} (h : w.ownsRow base' e size v n xs) (hb : base ≤ base') : w.ownsRow base e size v n xs := by
  refine ⟨h.1, ?_⟩
  rcases h.2 with h2 | ⟨g, cap, cur, h1, h2, h3⟩
  · exact .inl h2
  · exact .inr ⟨g, cap, cur, h1, Nat.le_trans hb h2, h3⟩

theorem start_right {xs : List Int} {P fuel : Int} (h : startE xs P fuel = 0) : (xs.length : Int) = P ∧ (∀ i, 0 ≤ nth xs i ∧ nth xs i ≤ 65535) ∧ 0 ≤ fuel ∧ fuel ≤ 100000 := by
  unfold startE at h
  by_cases hf : fitsB xs P = false
  · rw [if_pos hf] at h; cases h
  · rw [if_neg hf] at h
    have hf' : fitsB xs P = true := by simpa using hf
    unfold fitsB at hf'
    rw [Bool.and_eq_true, beq_iff_eq] at hf'
    obtain ⟨h1, h2⟩ := hf'
    refine ⟨h2, fun i => ?_, ?_⟩
    · rcases Nat.lt_or_ge i xs.length with hi | hi
      · unfold valuesTo at h1
        rw [List.all_eq_true] at h1
        have := h1 i (by rw [List.mem_range]; exact hi)
        unfold valueB at this
        simpa using this
      · rw [nth_past xs hi]; omega
    · by_cases hb : fuel < 0 ∨ 100000 < fuel
      · rw [if_pos hb] at h; cases h
      · omega

theorem HeldI.below {w w' : World} {ao : Option Addr} {xs : List Int} (h : HeldI w ao xs) (hb : Below w.heap.size w w') : HeldI w' ao xs := by
  rcases h with h | ⟨b, off, e, hB, hL⟩
  · exact .inl h
  · exact .inr ⟨b, off, e, Nat.lt_of_lt_of_le hB hb.size, fun i hi => (hb.cell (p := ⟨b, off + i, none⟩) hB).trans (hL i hi)⟩
theorem st0_ok {P R V fuel : Int} {L : List In4} {xs : List Int} (hp : RightP P R V L) (h : startE xs P fuel = 0) : StOk L V (st0 xs) := by
  have hs := start_right h
  exact ⟨fun _ => hp.n1, hs.2.1, fun _ _ => rfl, Nat.le_refl _, Nat.le_refl _, fun _ => ⟨rfl, rfl⟩, rfl⟩

theorem Tryd.size37 : (Tryd.prog.info? 37).map (·.size) = some 5 := by kernel_rfl
theorem results_res {fn : Func} {p q : Tmp} (h : fn.results = #[.cell p 37, .tmp q]) (tmps : Array Value) (w : World) (g : Nat) (cs : Array Value) (hp : tmps.getD p undef = .pointer (some ⟨g, 0, none⟩)) (hg : w.heap[g]? = some (.cells cs 37 (0, 0))) (hn : cs.size = 5) :
    (results fn tmps).run Tryd.prog w = .ok (.tuple #[.agg cs, tmps.getD q undef]) w := by
  have hp' : tmps[p]?.getD undef = .pointer (some ⟨g, 0, none⟩) := by simpa using hp
  simp [results, h, hp', asAddr, run_loadVar_row w g 37 37 cs (0, 0) _ hg Tryd.underlying37 rfl (by rw [hn]; exact Tryd.size37)]
theorem set5 {w : World} {g : Nat} {z0 z1 z2 z3 z4 : Value} (h : w.heap[g]? = some (.cells #[z0, z1, z2, z3, z4] 37 (0, 0))) (a b c d e : Value) :
    (((((w.setCell ⟨g, 0, none⟩ a).setCell ⟨g, 1, none⟩ b).setCell ⟨g, 2, none⟩ c).setCell ⟨g, 3, none⟩ d).setCell ⟨g, 4, none⟩ e).heap[g]? = some (.cells #[a, b, c, d, e] 37 (0, 0)) := by
  have h0 := heap_setCell_same w g 0 _ 37 a h
  have h1 := heap_setCell_same _ g 1 _ 37 b h0
  have h2 := heap_setCell_same _ g 2 _ 37 c h1
  have h3 := heap_setCell_same _ g 3 _ 37 d h2
  have h4 := heap_setCell_same _ g 4 _ 37 e h3
  rw [h4]; rfl
theorem below5 {B : Nat} {a w : World} {g : Nat} (h : Below B a w) (hg : B ≤ g) (v0 v1 v2 v3 v4 : Value) : Below B a (((((w.setCell ⟨g, 0, none⟩ v0).setCell ⟨g, 1, none⟩ v1).setCell ⟨g, 2, none⟩ v2).setCell ⟨g, 3, none⟩ v3).setCell ⟨g, 4, none⟩ v4) :=
  ((((h.setCell (p := ⟨g, 0, none⟩) hg _).setCell (p := ⟨g, 1, none⟩) hg _).setCell (p := ⟨g, 2, none⟩) hg _).setCell (p := ⟨g, 3, none⟩) hg _).setCell (p := ⟨g, 4, none⟩) hg _
theorem own5 {w : World} {base g : Nat} {e : TypeId} {size n : Nat} {v : Value} {xs : List Value} (h : w.ownsRow base e size v n xs) (hg : g < base) (v0 v1 v2 v3 v4 : Value) : (((((w.setCell ⟨g, 0, none⟩ v0).setCell ⟨g, 1, none⟩ v1).setCell ⟨g, 2, none⟩ v2).setCell ⟨g, 3, none⟩ v3).setCell ⟨g, 4, none⟩ v4).ownsRow base e size v n xs :=
  ownsRow_setCell_below (ownsRow_setCell_below (ownsRow_setCell_below (ownsRow_setCell_below (ownsRow_setCell_below h hg _) hg _) hg _) hg _) hg _

theorem own_slice {w : World} {base : Nat} {e : TypeId} {size n : Nat} {v : Value} {xs : List Value} (h : w.ownsRow base e size v n xs) : ∃ ao m cap, v = .slice ao m cap := by
  rcases h.2 with ⟨rfl, _⟩ | ⟨g, cap, cur, rfl, _⟩
  · exact ⟨_, _, _, rfl⟩
  · exact ⟨_, _, _, rfl⟩

def stepsOf (B : Nat) (w : World) : Nat := match w.cell? ⟨B, 20, none⟩ with | some (.int _ n) => n.toNat | _ => 0
theorem stepsOf_eq {w : World} {B : Nat} {s : St} {vo vs : Value} (h : StB w B s vo vs) : stepsOf B w = s.steps := by
  unfold stepsOf; rw [h.2.2.2.2.2.2.1]; simp

set_option maxRecDepth 100000 in
set_option maxHeartbeats 4000000 in
theorem run_any (P R V : Int) (L : List In4) (ac aa : Option Addr) (cc ca : Nat) (xs : List Int) (fuel : Int) (w : World) (hH : HeldIns w ac L) (hA : HeldI w aa xs) (hT : Tab w) (hw0 : 0 < w.heap.size) (hn : L.length ≤ 9223372036854775807) (hl : xs.length ≤ 9223372036854775807) :
    Calls Tryd.prog 17 #[.agg #[.int .i64 P, .int .i64 R, .int .i64 V, .slice ac L.length cc], .slice aa xs.length ca, .int .i64 fuel] w (RunPost w (runE P R V L xs fuel)) := by
  obtain ⟨e1, he1⟩ : ∃ e, e = (progE P R V L).1 := ⟨_, rfl⟩
  obtain ⟨e2, he2⟩ : ∃ e, e = (progE P R V L).2 := ⟨_, rfl⟩
  obtain ⟨e3, he3⟩ : ∃ e, e = startE xs P fuel := ⟨_, rfl⟩
  have KC := hide (fun w (hH : HeldIns w ac L) (hT : Tab w) (hw0 : 0 < w.heap.size) => irCheck_any P R V L ac cc w hH hn hT hw0)
  have KS := hide (fun w (hH : HeldI w aa xs) => start_any xs P fuel aa ca w hH hl)
  rw [← he1, ← he2] at KC
  rw [← he3] at KS
  have HE1 := hide he1
  have HE3 := hide he3
  have HH := hide hH
  have HA := hide hA
  have HT := hide hT
  clear he1 he2 he3 hH hA hT
  go_enter Tryd.func17, Tryd.ntmps17
  go_wp2_with fail
  obtain ⟨w1, hw1⟩ : ∃ w1, w1 = (w.alloc (.cells #[.int .i64 P, .int .i64 R, .int .i64 V, .slice ac L.length cc] 24)).alloc (.cells #[.int .i64 0, .int .i64 0, .int .i64 0, .slice none 0 0, .slice none 0 0] 37) := ⟨_, rfl⟩
  rw [← hw1]
  have hB1 : Below w.heap.size w w1 := by rw [hw1]; exact ((Below.refl _ _).alloc (Nat.le_refl _) _).alloc (by simp) _
  have hz1 : w1.heap.size = w.heap.size + 2 := by rw [hw1]; simp
  have p : ∀ i, w1.cell? ⟨w.heap.size, i, none⟩ = #[Value.int .i64 P, .int .i64 R, .int .i64 V, .slice ac L.length cc][i]? := fun i => by
    rw [hw1, World.cell?_alloc_past (hn := by simp), World.cell?_alloc_at (hn := rfl)]
  have p0 : w1.cell? ⟨w.heap.size, 0, none⟩ = some (.int .i64 P) := (p 0).trans rfl
  have p3 : w1.cell? ⟨w.heap.size, 3, none⟩ = some (.slice ac L.length cc) := (p 3).trans rfl
  have hr : w1.heap[w.heap.size + 1]? = some (.cells #[.int .i64 0, .int .i64 0, .int .i64 0, .slice none 0 0, .slice none 0 0] 37 (0, 0)) := by
    have hh := heap_alloc_new (w.alloc (.cells #[.int .i64 P, .int .i64 R, .int .i64 V, .slice ac L.length cc] 24)) (.cells #[.int .i64 0, .int .i64 0, .int .i64 0, .slice none 0 0, .slice none 0 0] 37)
    rw [show (w.alloc (.cells #[.int .i64 P, .int .i64 R, .int .i64 V, .slice ac L.length cc] 24)).heap.size = w.heap.size + 1 by simp] at hh
    rw [hw1]; exact hh
  clear hw1 p
  refine (unhide KC w1 ((unhide HH).below hB1) ((unhide HT).below hB1 hw0) (by omega)).mono ?_
  rintro e w2 ⟨rfl, hb2⟩
  have hB2 : Below w.heap.size w w2 := hB1.trans (hb2.mono (by omega))
  have q0 := (hb2.cell (p := ⟨w.heap.size, 0, none⟩) (show w.heap.size < w1.heap.size by omega)).trans p0
  have q3 := (hb2.cell (p := ⟨w.heap.size, 3, none⟩) (show w.heap.size < w1.heap.size by omega)).trans p3
  have hr2 := (hb2.block (w.heap.size + 1) (by omega)).trans hr
  have hz2 : w.heap.size + 2 ≤ w2.heap.size := by have := hb2.size; omega
  have HR2 := hide hr2
  have HB2 := hide hB2
  have r0 : w2.cell? ⟨w.heap.size + 1, 0, none⟩ = some (.int .i64 0) := (cell_of_row w2 _ 0 _ 37 (0, 0) hr2).trans rfl
  have r1 : w2.cell? ⟨w.heap.size + 1, 1, none⟩ = some (.int .i64 0) := (cell_of_row w2 _ 1 _ 37 (0, 0) hr2).trans rfl
  have r2 : w2.cell? ⟨w.heap.size + 1, 2, none⟩ = some (.int .i64 0) := (cell_of_row w2 _ 2 _ 37 (0, 0) hr2).trans rfl
  have r3 : w2.cell? ⟨w.heap.size + 1, 3, none⟩ = some (.slice none 0 0) := (cell_of_row w2 _ 3 _ 37 (0, 0) hr2).trans rfl
  have r4 : w2.cell? ⟨w.heap.size + 1, 4, none⟩ = some (.slice none 0 0) := (cell_of_row w2 _ 4 _ 37 (0, 0) hr2).trans rfl
  have rf : ∀ o, w2.frozen? ⟨w.heap.size + 1, o, none⟩ = false := fun o => by simp [World.frozen?, hr2]
  clear hb2 p0 p3 hr hr2 hB1 hz1 hB2
  by_cases h1 : e1 = 0
  case neg =>
    have h1' : (e1 != 0) = true := by rw [bne_iff_ne]; exact h1
    have he := hide (show runE P R V L xs fuel = (e1, zst) by unfold runE; rw [if_pos (by rw [← unhide HE1]; exact h1), ← unhide HE1])
    go_wp2_with fail
    refine bodyPost_ret (results_res rfl _ _ (w.heap.size + 1) _ rfl (set5 (unhide HR2) _ _ _ _ _) rfl) rfl ?_
    rw [unhide he]
    exact ⟨_, rfl, ResOf.zero _ _, below5 (unhide HB2) (Nat.le_succ _) _ _ _ _ _⟩
  subst h1
  have HP := hide (rightP_of P R V L (unhide HE1).symm)
  go_wp2_with fail
  refine (unhide KS w2 ((unhide HA).below (unhide HB2))).mono ?_
  rintro e w3 ⟨rfl, hw⟩
  rw [hw]
  clear hw w3
  by_cases h3 : e3 = 0
  case neg =>
    have h3' : (e3 != 0) = true := by rw [bne_iff_ne]; exact h3
    have he := hide (show runE P R V L xs fuel = (e3, zst) by unfold runE; rw [if_neg (by rw [← unhide HE1]; exact fun h => h rfl), if_pos (by rw [← unhide HE3]; exact h3), ← unhide HE3])
    go_wp2_with fail
    refine bodyPost_ret (results_res rfl _ _ (w.heap.size + 1) _ rfl (set5 (unhide HR2) _ _ _ _ _) rfl) rfl ?_
    rw [unhide he]
    exact ⟨_, rfl, ResOf.zero _ _, below5 (unhide HB2) (Nat.le_succ _) _ _ _ _ _⟩
  subst h3
  have hsr := start_right (unhide HE3).symm
  have HK := hide (st0_ok (unhide HP) (unhide HE3).symm)
  have he := hide (show runE P R V L xs fuel = (0, runSt L fuel.toNat (st0 xs)) by unfold runE; rw [if_neg (by rw [← unhide HE1]; exact fun h => h rfl), if_neg (by rw [← unhide HE3]; exact fun h => h rfl)])
  have hx4 : xs.length ≤ 4 := by have := (unhide HP).p4; have := hsr.1; omega
  have f0 := hsr.2.2.1
  have f1 := hsr.2.2.2
  have KB := hide (fun w (hH : HeldI w aa xs) => begin_any xs aa ca w hH hx4)
  clear hsr
  go_wp2_with fail
  refine (unhide KB w2 ((unhide HA).below (unhide HB2))).mono ?_
  rintro e w3 ⟨cs, rfl, hcs, hb3⟩
  have HCS := hide hcs
  have HB3 : Hid (Below w.heap.size w w3) := (unhide HB2).trans (hb3.mono (by omega))
  have hz3 : w.heap.size + 2 ≤ w3.heap.size := by have := hb3.size; omega
  have s3 := (hb3.cell (p := ⟨w.heap.size, 3, none⟩) (show w.heap.size < w2.heap.size by omega)).trans q3
  have HR3 := hide ((hb3.block (w.heap.size + 1) (by omega)).trans (unhide HR2))
  clear hcs hb3 q0 q3 r0 r1 r2 r3 r4 rf HR2 HB2
  go_wp2_with (refine wpList_store_row ?h1 83 ?h2 ?h3 ?h4 w3.heap.size ?h5 ?h6 ?h7 ?h8 ?h9 ?h10 ?h11 ?h12 ?h13 ?h14; case h4 => rfl)
  case h1 => rfl
  case h6 => rfl
  case h7 => rfl
  case h10 => exact heap_alloc_new _ _
  case h11 => rw [(unhide HCS).1]; exact Tryd.size83
  case h12 => rw [(unhide HCS).1]; rfl
  case h13 => exact (unhide HCS).plain
  rw [World.setRow_alloc_new]
  obtain ⟨w4, hw4⟩ : ∃ w4, w4 = w3.alloc (.cells cs 83) := ⟨_, rfl⟩
  rw [← hw4]
  have hg4 : w4.heap[w3.heap.size]? = some (.cells cs 83 (0, 0)) := by rw [hw4]; exact heap_alloc_new _ _
  have HI4 : Hid (Inv w4 w3.heap.size (st0 xs) (.slice none 0 0) (.slice none 0 0)) := ⟨(unhide HCS).stb rfl hg4, World.ownsRow_nil _ _ _ _, World.ownsRow_nil _ _ _ _⟩
  have HB4 : Hid (Below w.heap.size w w4) := by rw [hw4]; exact (unhide HB3).alloc (by omega) _
  have hz4 : w4.heap.size = w3.heap.size + 1 := by rw [hw4]; simp
  have t3 : w4.cell? ⟨w.heap.size, 3, none⟩ = some (.slice ac L.length cc) := by rw [hw4, World.cell?_alloc_past (hn := by omega)]; exact s3
  have HR4 : Hid (w4.heap[w.heap.size + 1]? = some (.cells #[.int .i64 0, .int .i64 0, .int .i64 0, .slice none 0 0, .slice none 0 0] 37 (0, 0))) := by rw [hw4]; exact (Below.heap_alloc _ _ _ (by omega)).trans (unhide HR3)
  clear hw4 hg4 s3 HR3 HB3
  obtain ⟨b, off, rfl, hb, HL⟩ : ∃ b off, ac = some ⟨b, off, none⟩ ∧ b < w.heap.size ∧ Hid (LieI w b off L) := by
    rcases unhide HH with h | h
    · have := (unhide HP).n1; rw [h] at this; exact absurd this (by decide)
    · exact h
  have hl1 := (unhide HP).n1
  have hl40 := (unhide HP).n40
  go_wp2_with fail
  simp only [Act.put]
  go_loopw [41] (fun _ wr => ∃ (s : St) (vo vs : Value), Hid (Inv wr w3.heap.size s vo vs) ∧ Hid (runSt L fuel.toNat (st0 xs) = runSt L (fuel.toNat - s.steps) s) ∧ s.steps ≤ fuel.toNat ∧ Hid (StOk L V s) ∧ Hid (Below w3.heap.size w4 wr)) (fun _ wr => fuel.toNat - stepsOf w3.heap.size wr)
  case atStart => exact ⟨st0 xs, _, _, unhide HI4, rfl, Nat.zero_le _, unhide HK, Below.refl _ _⟩
  case round =>
    obtain ⟨s, vo, vs, HI, HC, hst, HO, HB⟩ := hrel
    have c16 : wr.cell? ⟨w3.heap.size, 16, none⟩ = some (.int .i64 (s.at_ : Int)) := (unhide HI).1.2.2.1
    have c17 : wr.cell? ⟨w3.heap.size, 17, none⟩ = some (.bool s.on) := (unhide HI).1.2.2.2.1
    have c18 : wr.cell? ⟨w3.heap.size, 18, none⟩ = some (.int .i64 s.kind) := (unhide HI).1.2.2.2.2.1
    have c19 : wr.cell? ⟨w3.heap.size, 19, none⟩ = some (.int .i64 s.val) := (unhide HI).1.2.2.2.2.2.1
    have c20 : wr.cell? ⟨w3.heap.size, 20, none⟩ = some (.int .i64 (s.steps : Int)) := (unhide HI).1.2.2.2.2.2.2.1
    have c21 : wr.cell? ⟨w3.heap.size, 21, none⟩ = some vo := (unhide HI).1.2.2.2.2.2.2.2.1
    have c22 : wr.cell? ⟨w3.heap.size, 22, none⟩ = some vs := (unhide HI).1.2.2.2.2.2.2.2.2.1
    have u3 := ((unhide HB).cell (p := ⟨w.heap.size, 3, none⟩) (show w.heap.size < w3.heap.size by omega)).trans t3
    have HBr : Hid (Below w.heap.size w wr) := (unhide HB4).trans ((unhide HB).mono (by omega))
    have hr := ((unhide HB).block (w.heap.size + 1) (by omega)).trans (unhide HR4)
    have HRr := hide hr
    have r0 : wr.cell? ⟨w.heap.size + 1, 0, none⟩ = some (.int .i64 0) := (cell_of_row wr _ 0 _ 37 (0, 0) hr).trans rfl
    have r1 : wr.cell? ⟨w.heap.size + 1, 1, none⟩ = some (.int .i64 0) := (cell_of_row wr _ 1 _ 37 (0, 0) hr).trans rfl
    have r2 : wr.cell? ⟨w.heap.size + 1, 2, none⟩ = some (.int .i64 0) := (cell_of_row wr _ 2 _ 37 (0, 0) hr).trans rfl
    have r3 : wr.cell? ⟨w.heap.size + 1, 3, none⟩ = some (.slice none 0 0) := (cell_of_row wr _ 3 _ 37 (0, 0) hr).trans rfl
    have r4 : wr.cell? ⟨w.heap.size + 1, 4, none⟩ = some (.slice none 0 0) := (cell_of_row wr _ 4 _ 37 (0, 0) hr).trans rfl
    have rf : ∀ o, wr.frozen? ⟨w.heap.size + 1, o, none⟩ = false := fun o => by simp [World.frozen?, hr]
    clear hr
    by_cases hgo : s.on = true ∧ s.steps < fuel.toNat
    · obtain ⟨hon, hlt⟩ := hgo
      have hlt' : (s.steps : Int) < fuel := by omega
      have hat := (unhide HO).at_ hon
      obtain ⟨x, hx⟩ : ∃ x, x = inAt L s.at_ := ⟨_, rfl⟩
      have hAx := (unhide HL s.at_ hat).below (unhide HBr) hb
      rw [← hx] at hAx
      obtain ⟨x0, x1, x2, x3⟩ := hAx
      have hso := step_ok (unhide HP) (unhide HO) hon
      have KT := hide (step_any w3.heap.size s vo vs x R L.length V wr (unhide HI) (by rw [hx]; exact (unhide HP).ins s.at_ hat) (by rw [hx]; exact (unhide HP).low s.at_ hat) (unhide HO).env (unhide HP).r12 (unhide HP).v4 (fun i _ => (unhide HO).regs i) (by omega) (by omega) (by have := (unhide HO).outs; omega) (by have := (unhide HO).stops; omega))
      have hn := hide (show runSt L fuel.toNat (st0 xs) = runSt L (fuel.toNat - (stepSt x s).steps) (stepSt x s) by
        rw [unhide HC, run_on (by omega) hon, hx, hso.2, Nat.sub_sub])
      rw [← hx] at hso
      have HSO := hide hso
      have HX := hide hx
      rw [hon] at c17
      clear hso hx r0 r1 r2 r3 r4 rf c18 c19 c21 c22 hon
      go_wp2_with fail
      refine (unhide KT).mono ?_
      rintro e w5 ⟨rfl, ⟨vo', vs', hI5⟩, hb5⟩
      have HI5 := hide hI5
      have HB5 := hide ((unhide HB).trans hb5)
      have h5 := (unhide HSO).2
      have hm := stepsOf_eq hI5.1
      have hm0 := stepsOf_eq (unhide HI).1
      have HM := hide hm
      have HM0 := hide hm0
      clear hI5 hb5 hm hm0 KT
      go_wp2_with fail
      go_roundw
      case rel => exact ⟨stepSt x s, vo', vs', unhide HI5, unhide hn, by omega, (unhide HSO).1, unhide HB5⟩
      case measure => rw [unhide HM, unhide HM0, h5]; omega
    · have hend := hide (show runSt L fuel.toNat (st0 xs) = s by
        rw [unhide HC]
        cases hon : s.on with
        | false => exact run_off _ _ _ hon
        | true =>
          rw [show fuel.toNat - s.steps = 0 by
            rcases Nat.lt_or_ge s.steps fuel.toNat with h | h
            · exact absurd ⟨hon, h⟩ hgo
            · omega]
          rfl)
      have HOo := hide (unhide HI).2.1
      have HOs := hide (unhide HI).2.2
      have hcase : s.on = false ∨ (s.on = true ∧ fuel ≤ (s.steps : Int)) := by
        cases hon : s.on with
        | false => exact .inl rfl
        | true => exact .inr ⟨rfl, by
            rcases Nat.lt_or_ge s.steps fuel.toNat with h | h
            · exact absurd ⟨hon, h⟩ hgo
            · omega⟩
      clear hgo
      obtain ⟨ao, no, co, rfl⟩ := own_slice (unhide HOo)
      obtain ⟨az, ns, cz, rfl⟩ := own_slice (unhide HOs)
      rcases hcase with hon | ⟨hon, hf⟩
      all_goals
        rw [hon] at c17
        clear hon
        go_wp2_with fail
        refine bodyPost_ret (results_res rfl _ _ (w.heap.size + 1) _ rfl (set5 (unhide HRr) _ _ _ _ _) rfl) rfl ?_
        rw [unhide he, unhide hend]
        exact ⟨_, rfl, ⟨_, _, rfl, own_weaken (own5 (unhide HOo) (by omega) _ _ _ _ _) (by omega), own_weaken (own5 (unhide HOs) (by omega) _ _ _ _ _) (by omega)⟩, below5 (unhide HBr) (Nat.le_succ _) _ _ _ _ _⟩
end Go.Proofs.YtoepcplbpochpaaDoor
