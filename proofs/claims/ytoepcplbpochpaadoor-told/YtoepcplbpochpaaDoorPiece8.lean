/-
  What ir.Run answers: the error, and the whole result, in memory of its own.
-/
import Derived.Test.YtoepcplbpochpaaDoorPiece6
import Derived.Test.YtoepcplbpochpaaDoorPiece5
import Derived.Test.YtoepcplbpochpaaDoorPiece7
import Derived.Test.YtoepcplbpochpaaDoorPiece2
import Derived.Deep.RegionHeld3
import Derived.Handy
import Derived.Test.YtoepcplbpochpaaDoorPiece3
import Derived.OwnWalk
import Derived.Deep.AppendLies
import Derived.WalkSmall
import Derived.Test.YtoepcplbpochpaaDoorPiece1

namespace Go.Proofs.YtoepcplbpochpaaDoor
open Go.RowKit

/-- The answer of a run: its error and what it came to. -/
def runE (P R V : Int) (L : List In4) (xs : List Int) (fuel : Int) : Int × St :=
  if (progE P R V L).1 ≠ 0 then ((progE P R V L).1, zst) else if startE xs P fuel ≠ 0 then (startE xs P fuel, zst) else (0, runSt L fuel.toNat (st0 xs))
/-- A result in memory. -/
def ResOf (w : World) (base : Nat) (v : Value) (s : St) : Prop :=
  ∃ vo vs, v = .agg #[.int .i64 s.kind, .int .i64 s.val, .int .i64 (s.steps : Int), vo, vs] ∧ w.ownsRow base 3 1 vo s.outs.length (intCells s.outs) ∧ w.ownsRow base 63 5 vs s.stops.length (snCells s.stops)
def RunPost (w : World) (r : Int × St) (e : Ending) (w' : World) : Prop :=
  ∃ v, e = .returned (.tuple #[v, .int .i64 r.1]) ∧ ResOf w' w.heap.size v r.2 ∧ Below w.heap.size w w'
theorem ResOf.zero (w : World) (base : Nat) : ResOf w base (.agg #[.int .i64 0, .int .i64 0, .int .i64 0, .slice none 0 0, .slice none 0 0]) zst :=
  ⟨_, _, rfl, World.ownsRow_nil _ _ _ _, World.ownsRow_nil _ _ _ _⟩
theorem own_weaken {w : World} {base base' : Nat} {e : TypeId} {size n : Nat} {v : Value} {xs : List Value} (h : w.ownsRow base' e size v n xs) (hb : base ≤ base') : w.ownsRow base e size v n xs := by
  refine ⟨h.1, ?_⟩
  rcases h.2 with h2 | ⟨g, cap, cur, h1, h2, h3⟩
  · exact .inl h2
  · exact .inr ⟨g, cap, cur, h1, Nat.le_trans hb h2, h3⟩

theorem start_right {xs : List Int} {P fuel : Int} (h : startE xs P fuel = 0) : (xs.length : Int) = P ∧ (∀ i, 0 ≤ nth xs i ∧ nth xs i ≤ 65535) ∧ 0 ≤ fuel ∧ fuel ≤ 100000 := by
  unfold startE at h
  by_cases hf : fitsB xs P = false
  · rw [if_pos hf] at h; cases h
  · rw [if_neg hf] at h
    have hf' : fitsB xs P = true := by simpa using hf
    unfold fitsB at hf'
    rw [Bool.and_eq_true, beq_iff_eq] at hf'
    obtain ⟨h1, h2⟩ := hf'
    refine ⟨h2, fun i => ?_, ?_⟩
    · rcases Nat.lt_or_ge i xs.length with hi | hi
      · unfold valuesTo at h1
        rw [List.all_eq_true] at h1
        have := h1 i (by rw [List.mem_range]; exact hi)
        unfold valueB at this
        simpa using this
      · rw [nth_past xs hi]; omega
    · by_cases hb : fuel < 0 ∨ 100000 < fuel
      · rw [if_pos hb] at h; cases h
      · omega

theorem HeldI.below {w w' : World} {ao : Option Addr} {xs : List Int} (h : HeldI w ao xs) (hb : Below w.heap.size w w') : HeldI w' ao xs := by
  rcases h with h | ⟨b, off, e, hB, hL⟩
  · exact .inl h
  · exact .inr ⟨b, off, e, Nat.lt_of_lt_of_le hB hb.size, fun i hi => (hb.cell (p := ⟨b, off + i, none⟩) hB).trans (hL i hi)⟩
theorem st0_ok {P R V fuel : Int} {L : List In4} {xs : List Int} (hp : RightP P R V L) (h : startE xs P fuel = 0) : StOk L V (st0 xs) := by
  have hs := start_right h
  exact ⟨fun _ => hp.n1, hs.2.1, fun _ _ => rfl, Nat.le_refl _, Nat.le_refl _, fun _ => ⟨rfl, rfl⟩, rfl⟩

theorem Tryd.size37 : (Tryd.prog.info? 37).map (·.size) = some 5 := by kernel_rfl
theorem results_res {fn : Func} {p q : Tmp} (h : fn.results = #[.cell p 37, .tmp q]) (tmps : Array Value) (w : World) (g : Nat) (cs : Array Value) (hp : tmps.getD p undef = .pointer (some ⟨g, 0, none⟩)) (hg : w.heap[g]? = some (.cells cs 37 (0, 0))) (hn : cs.size = 5) :
    (results fn tmps).run Tryd.prog w = .ok (.tuple #[.agg cs, tmps.getD q undef]) w := by
  have hp' : tmps[p]?.getD undef = .pointer (some ⟨g, 0, none⟩) := by simpa using hp
  simp [results, h, hp', asAddr, run_loadVar_row w g 37 37 cs (0, 0) _ hg Tryd.underlying37 rfl (by rw [hn]; exact Tryd.size37)]
theorem set5 {w : World} {g : Nat} {z0 z1 z2 z3 z4 : Value} (h : w.heap[g]? = some (.cells #[z0, z1, z2, z3, z4] 37 (0, 0))) (a b c d e : Value) :
    (((((w.setCell ⟨g, 0, none⟩ a).setCell ⟨g, 1, none⟩ b).setCell ⟨g, 2, none⟩ c).setCell ⟨g, 3, none⟩ d).setCell ⟨g, 4, none⟩ e).heap[g]? = some (.cells #[a, b, c, d, e] 37 (0, 0)) := by
  have h0 := heap_setCell_same w g 0 _ 37 a h
  have h1 := heap_setCell_same _ g 1 _ 37 b h0
  have h2 := heap_setCell_same _ g 2 _ 37 c h1
  have h3 := heap_setCell_same _ g 3 _ 37 d h2
  have h4 := heap_setCell_same _ g 4 _ 37 e h3
  rw [h4]; rfl
theorem below5 {B : Nat} {a w : World} {g : Nat} (h : Below B a w) (hg : B ≤ g) (v0 v1 v2 v3 v4 : Value) : Below B a (((((w.setCell ⟨g, 0, none⟩ v0).setCell ⟨g, 1, none⟩ v1).setCell ⟨g, 2, none⟩ v2).setCell ⟨g, 3, none⟩ v3).setCell ⟨g, 4, none⟩ v4) :=
  ((((h.setCell (p := ⟨g, 0, none⟩) hg _).setCell (p := ⟨g, 1, none⟩) hg _).setCell (p := ⟨g, 2, none⟩) hg _).setCell (p := ⟨g, 3, none⟩) hg _).setCell (p := ⟨g, 4, none⟩) hg _
theorem own5 {w : World} {base g : Nat} {e : TypeId} {size n : Nat} {v : Value} {xs : List Value} (h : w.ownsRow base e size v n xs) (hg : g < base) (v0 v1 v2 v3 v4 : Value) : (((((w.setCell ⟨g, 0, none⟩ v0).setCell ⟨g, 1, none⟩ v1).setCell ⟨g, 2, none⟩ v2).setCell ⟨g, 3, none⟩ v3).setCell ⟨g, 4, none⟩ v4).ownsRow base e size v n xs :=
  ownsRow_setCell_below (ownsRow_setCell_below (ownsRow_setCell_below (ownsRow_setCell_below (ownsRow_setCell_below h hg _) hg _) hg _) hg _) hg _

theorem own_slice {w : World} {base : Nat} {e : TypeId} {size n : Nat} {v : Value} {xs : List Value} (h : w.ownsRow base e size v n xs) : ∃ ao m cap, v = .slice ao m cap := by
  rcases h.2 with ⟨rfl, _⟩ | ⟨g, cap, cur, rfl, _⟩
  · exact ⟨_, _, _, rfl⟩
  · exact ⟨_, _, _, rfl⟩

def stepsOf (B : Nat) (w : World) : Nat := match w.cell? ⟨B, 20, none⟩ with | some (.int _ n) => n.toNat | _ => 0
theorem stepsOf_eq {w : World} {B : Nat} {s : St} {vo vs : Value} (h : StB w B s vo vs) : stepsOf B w = s.steps := by
  unfold stepsOf; rw [h.2.2.2.2.2.2.1]; simp

set_option maxRecDepth 100000 in
set_option maxHeartbeats 4000000 in
theorem run_any (P R V : Int) (L : List In4) (ac aa : Option Addr) (cc ca : Nat) (xs : List Int) (fuel : Int) (w : World) (hH : HeldIns w ac L) (hA : HeldI w aa xs) (hT : Tab w) (hw0 : 0 < w.heap.size) (hn : L.length ≤ 9223372036854775807) (hl : xs.length ≤ 9223372036854775807) :
    Calls Tryd.prog 17 #[.agg #[.int .i64 P, .int .i64 R, .int .i64 V, .slice ac L.length cc], .slice aa xs.length ca, .int .i64 fuel] w (RunPost w (runE P R V L xs fuel)) := by
  obtain ⟨e1, he1⟩ : ∃ e, e = (progE P R V L).1 := ⟨_, rfl⟩
  obtain ⟨e2, he2⟩ : ∃ e, e = (progE P R V L).2 := ⟨_, rfl⟩
  obtain ⟨e3, he3⟩ : ∃ e, e = startE xs P fuel := ⟨_, rfl⟩
  have KC := hide (fun w (hH : HeldIns w ac L) (hT : Tab w) (hw0 : 0 < w.heap.size) => irCheck_any P R V L ac cc w hH hn hT hw0)
  have KS := hide (fun w (hH : HeldI w aa xs) => start_any xs P fuel aa ca w hH hl)
  rw [← he1, ← he2] at KC
  rw [← he3] at KS
  have HE1 := hide he1
  have HE3 := hide he3
  have HH := hide hH
  have HA := hide hA
  have HT := hide hT
  clear he1 he2 he3 hH hA hT
  go_enter Tryd.func17, Tryd.ntmps17
  go_wp2_with fail
  obtain ⟨w1, hw1⟩ : ∃ w1, w1 = (w.alloc (.cells #[.int .i64 P, .int .i64 R, .int .i64 V, .slice ac L.length cc] 24)).alloc (.cells #[.int .i64 0, .int .i64 0, .int .i64 0, .slice none 0 0, .slice none 0 0] 37) := ⟨_, rfl⟩
  rw [← hw1]
  have hB1 : Below w.heap.size w w1 := by rw [hw1]; exact ((Below.refl _ _).alloc (Nat.le_refl _) _).alloc (by simp) _
  have hz1 : w1.heap.size = w.heap.size + 2 := by rw [hw1]; simp
  have p : ∀ i, w1.cell? ⟨w.heap.size, i, none⟩ = #[Value.int .i64 P, .int .i64 R, .int .i64 V, .slice ac L.length cc][i]? := fun i => by
    rw [hw1, World.cell?_alloc_past (hn := by simp), World.cell?_alloc_at (hn := rfl)]
  have p0 : w1.cell? ⟨w.heap.size, 0, none⟩ = some (.int .i64 P) := (p 0).trans rfl
  have p3 : w1.cell? ⟨w.heap.size, 3, none⟩ = some (.slice ac L.length cc) := (p 3).trans rfl
  have hr : w1.heap[w.heap.size + 1]? = some (.cells #[.int .i64 0, .int .i64 0, .int .i64 0, .slice none 0 0, .slice none 0 0] 37 (0, 0)) := by
    have hh := heap_alloc_new (w.alloc (.cells #[.int .i64 P, .int .i64 R, .int .i64 V, .slice ac L.length cc] 24)) (.cells #[.int .i64 0, .int .i64 0, .int .i64 0, .slice none 0 0, .slice none 0 0] 37)
    rw [show (w.alloc (.cells #[.int .i64 P, .int .i64 R, .int .i64 V, .slice ac L.length cc] 24)).heap.size = w.heap.size + 1 by simp] at hh
    rw [hw1]; exact hh
  clear hw1 p
  refine (unhide KC w1 ((unhide HH).below hB1) ((unhide HT).below hB1 hw0) (by omega)).mono ?_
  rintro e w2 ⟨rfl, hb2⟩
  have hB2 : Below w.heap.size w w2 := hB1.trans (hb2.mono (by omega))
  have q0 := (hb2.cell (p := ⟨w.heap.size, 0, none⟩) (show w.heap.size < w1.heap.size by omega)).trans p0
  have q3 := (hb2.cell (p := ⟨w.heap.size, 3, none⟩) (show w.heap.size < w1.heap.size by omega)).trans p3
  have hr2 := (hb2.block (w.heap.size + 1) (by omega)).trans hr
  have hz2 : w.heap.size + 2 ≤ w2.heap.size := by have := hb2.size; omega
  have HR2 := hide hr2
  have HB2 := hide hB2
  have r0 : w2.cell? ⟨w.heap.size + 1, 0, none⟩ = some (.int .i64 0) := (cell_of_row w2 _ 0 _ 37 (0, 0) hr2).trans rfl
  have r1 : w2.cell? ⟨w.heap.size + 1, 1, none⟩ = some (.int .i64 0) := (cell_of_row w2 _ 1 _ 37 (0, 0) hr2).trans rfl
  have r2 : w2.cell? ⟨w.heap.size + 1, 2, none⟩ = some (.int .i64 0) := (cell_of_row w2 _ 2 _ 37 (0, 0) hr2).trans rfl
  have r3 : w2.cell? ⟨w.heap.size + 1, 3, none⟩ = some (.slice none 0 0) := (cell_of_row w2 _ 3 _ 37 (0, 0) hr2).trans rfl
  have r4 : w2.cell? ⟨w.heap.size + 1, 4, none⟩ = some (.slice none 0 0) := (cell_of_row w2 _ 4 _ 37 (0, 0) hr2).trans rfl
  have rf : ∀ o, w2.frozen? ⟨w.heap.size + 1, o, none⟩ = false := fun o => by simp [World.frozen?, hr2]
  clear hb2 p0 p3 hr hr2 hB1 hz1 hB2
  by_cases h1 : e1 = 0
  case neg =>
    have h1' : (e1 != 0) = true := by rw [bne_iff_ne]; exact h1
    have he := hide (show runE P R V L xs fuel = (e1, zst) by unfold runE; rw [if_pos (by rw [← unhide HE1]; exact h1), ← unhide HE1])
    go_wp2_with fail
    refine bodyPost_ret (results_res rfl _ _ (w.heap.size + 1) _ rfl (set5 (unhide HR2) _ _ _ _ _) rfl) rfl ?_
    rw [unhide he]
    exact ⟨_, rfl, ResOf.zero _ _, below5 (unhide HB2) (Nat.le_succ _) _ _ _ _ _⟩
  subst h1
  have HP := hide (rightP_of P R V L (unhide HE1).symm)
  go_wp2_with fail
  refine (unhide KS w2 ((unhide HA).below (unhide HB2))).mono ?_
  rintro e w3 ⟨rfl, hw⟩
  rw [hw]
  clear hw w3
  by_cases h3 : e3 = 0
  case neg =>
    have h3' : (e3 != 0) = true := by rw [bne_iff_ne]; exact h3
    have he := hide (show runE P R V L xs fuel = (e3, zst) by unfold runE; rw [if_neg (by rw [← unhide HE1]; exact fun h => h rfl), if_pos (by rw [← unhide HE3]; exact h3), ← unhide HE3])
    go_wp2_with fail
    refine bodyPost_ret (results_res rfl _ _ (w.heap.size + 1) _ rfl (set5 (unhide HR2) _ _ _ _ _) rfl) rfl ?_
    rw [unhide he]
    exact ⟨_, rfl, ResOf.zero _ _, below5 (unhide HB2) (Nat.le_succ _) _ _ _ _ _⟩
  subst h3
  have hsr := start_right (unhide HE3).symm
  have HK := hide (st0_ok (unhide HP) (unhide HE3).symm)
  have he := hide (show runE P R V L xs fuel = (0, runSt L fuel.toNat (st0 xs)) by unfold runE; rw [if_neg (by rw [← unhide HE1]; exact fun h => h rfl), if_neg (by rw [← unhide HE3]; exact fun h => h rfl)])
  have hx4 : xs.length ≤ 4 := by have := (unhide HP).p4; have := hsr.1; omega
  have f0 := hsr.2.2.1
  have f1 := hsr.2.2.2
  have KB := hide (fun w (hH : HeldI w aa xs) => begin_any xs aa ca w hH hx4)
  clear hsr
  go_wp2_with fail
  refine (unhide KB w2 ((unhide HA).below (unhide HB2))).mono ?_
  rintro e w3 ⟨cs, rfl, hcs, hb3⟩
  have HCS := hide hcs
  have HB3 : Hid (Below w.heap.size w w3) := (unhide HB2).trans (hb3.mono (by omega))
  have hz3 : w.heap.size + 2 ≤ w3.heap.size := by have := hb3.size; omega
  have s3 := (hb3.cell (p := ⟨w.heap.size, 3, none⟩) (show w.heap.size < w2.heap.size by omega)).trans q3
  have HR3 := hide ((hb3.block (w.heap.size + 1) (by omega)).trans (unhide HR2))
  clear hcs hb3 q0 q3 r0 r1 r2 r3 r4 rf HR2 HB2
  go_wp2_with (refine wpList_store_row ?h1 83 ?h2 ?h3 ?h4 w3.heap.size ?h5 ?h6 ?h7 ?h8 ?h9 ?h10 ?h11 ?h12 ?h13 ?h14; case h4 => rfl)
  case h1 => rfl
  case h6 => rfl
  case h7 => rfl
  case h10 => exact heap_alloc_new _ _
  case h11 => rw [(unhide HCS).1]; exact Tryd.size83
  case h12 => rw [(unhide HCS).1]; rfl
  case h13 => exact (unhide HCS).plain
  rw [World.setRow_alloc_new]
  obtain ⟨w4, hw4⟩ : ∃ w4, w4 = w3.alloc (.cells cs 83) := ⟨_, rfl⟩
  rw [← hw4]
  have hg4 : w4.heap[w3.heap.size]? = some (.cells cs 83 (0, 0)) := by rw [hw4]; exact heap_alloc_new _ _
  have HI4 : Hid (Inv w4 w3.heap.size (st0 xs) (.slice none 0 0) (.slice none 0 0)) := ⟨(unhide HCS).stb rfl hg4, World.ownsRow_nil _ _ _ _, World.ownsRow_nil _ _ _ _⟩
  have HB4 : Hid (Below w.heap.size w w4) := by rw [hw4]; exact (unhide HB3).alloc (by omega) _
  have hz4 : w4.heap.size = w3.heap.size + 1 := by rw [hw4]; simp
  have t3 : w4.cell? ⟨w.heap.size, 3, none⟩ = some (.slice ac L.length cc) := by rw [hw4, World.cell?_alloc_past (hn := by omega)]; exact s3
  have HR4 : Hid (w4.heap[w.heap.size + 1]? = some (.cells #[.int .i64 0, .int .i64 0, .int .i64 0, .slice none 0 0, .slice none 0 0] 37 (0, 0))) := by rw [hw4]; exact (Below.heap_alloc _ _ _ (by omega)).trans (unhide HR3)
  clear hw4 hg4 s3 HR3 HB3
  obtain ⟨b, off, rfl, hb, HL⟩ : ∃ b off, ac = some ⟨b, off, none⟩ ∧ b < w.heap.size ∧ Hid (LieI w b off L) := by
    rcases unhide HH with h | h
    · have := (unhide HP).n1; rw [h] at this; exact absurd this (by decide)
    · exact h
  have hl1 := (unhide HP).n1
  have hl40 := (unhide HP).n40
  go_wp2_with fail
  simp only [Act.put]
  go_loopw [41] (fun _ wr => ∃ (s : St) (vo vs : Value), Hid (Inv wr w3.heap.size s vo vs) ∧ Hid (runSt L fuel.toNat (st0 xs) = runSt L (fuel.toNat - s.steps) s) ∧ s.steps ≤ fuel.toNat ∧ Hid (StOk L V s) ∧ Hid (Below w3.heap.size w4 wr)) (fun _ wr => fuel.toNat - stepsOf w3.heap.size wr)
  case atStart => exact ⟨st0 xs, _, _, unhide HI4, rfl, Nat.zero_le _, unhide HK, Below.refl _ _⟩
  case round =>
    obtain ⟨s, vo, vs, HI, HC, hst, HO, HB⟩ := hrel
    have c16 : wr.cell? ⟨w3.heap.size, 16, none⟩ = some (.int .i64 (s.at_ : Int)) := (unhide HI).1.2.2.1
    have c17 : wr.cell? ⟨w3.heap.size, 17, none⟩ = some (.bool s.on) := (unhide HI).1.2.2.2.1
    have c18 : wr.cell? ⟨w3.heap.size, 18, none⟩ = some (.int .i64 s.kind) := (unhide HI).1.2.2.2.2.1
    have c19 : wr.cell? ⟨w3.heap.size, 19, none⟩ = some (.int .i64 s.val) := (unhide HI).1.2.2.2.2.2.1
    have c20 : wr.cell? ⟨w3.heap.size, 20, none⟩ = some (.int .i64 (s.steps : Int)) := (unhide HI).1.2.2.2.2.2.2.1
    have c21 : wr.cell? ⟨w3.heap.size, 21, none⟩ = some vo := (unhide HI).1.2.2.2.2.2.2.2.1
    have c22 : wr.cell? ⟨w3.heap.size, 22, none⟩ = some vs := (unhide HI).1.2.2.2.2.2.2.2.2.1
    have u3 := ((unhide HB).cell (p := ⟨w.heap.size, 3, none⟩) (show w.heap.size < w3.heap.size by omega)).trans t3
    have HBr : Hid (Below w.heap.size w wr) := (unhide HB4).trans ((unhide HB).mono (by omega))
    have hr := ((unhide HB).block (w.heap.size + 1) (by omega)).trans (unhide HR4)
    have HRr := hide hr
    have r0 : wr.cell? ⟨w.heap.size + 1, 0, none⟩ = some (.int .i64 0) := (cell_of_row wr _ 0 _ 37 (0, 0) hr).trans rfl
    have r1 : wr.cell? ⟨w.heap.size + 1, 1, none⟩ = some (.int .i64 0) := (cell_of_row wr _ 1 _ 37 (0, 0) hr).trans rfl
    have r2 : wr.cell? ⟨w.heap.size + 1, 2, none⟩ = some (.int .i64 0) := (cell_of_row wr _ 2 _ 37 (0, 0) hr).trans rfl
    have r3 : wr.cell? ⟨w.heap.size + 1, 3, none⟩ = some (.slice none 0 0) := (cell_of_row wr _ 3 _ 37 (0, 0) hr).trans rfl
    have r4 : wr.cell? ⟨w.heap.size + 1, 4, none⟩ = some (.slice none 0 0) := (cell_of_row wr _ 4 _ 37 (0, 0) hr).trans rfl
    have rf : ∀ o, wr.frozen? ⟨w.heap.size + 1, o, none⟩ = false := fun o => by simp [World.frozen?, hr]
    clear hr
    by_cases hgo : s.on = true ∧ s.steps < fuel.toNat
    · obtain ⟨hon, hlt⟩ := hgo
      have hlt' : (s.steps : Int) < fuel := by omega
      have hat := (unhide HO).at_ hon
      obtain ⟨x, hx⟩ : ∃ x, x = inAt L s.at_ := ⟨_, rfl⟩
      have hAx := (unhide HL s.at_ hat).below (unhide HBr) hb
      rw [← hx] at hAx
      obtain ⟨x0, x1, x2, x3⟩ := hAx
      have hso := step_ok (unhide HP) (unhide HO) hon
      have KT := hide (step_any w3.heap.size s vo vs x R L.length V wr (unhide HI) (by rw [hx]; exact (unhide HP).ins s.at_ hat) (by rw [hx]; exact (unhide HP).low s.at_ hat) (unhide HO).env (unhide HP).r12 (unhide HP).v4 (fun i _ => (unhide HO).regs i) (by omega) (by omega) (by have := (unhide HO).outs; omega) (by have := (unhide HO).stops; omega))
      have hn := hide (show runSt L fuel.toNat (st0 xs) = runSt L (fuel.toNat - (stepSt x s).steps) (stepSt x s) by
        rw [unhide HC, run_on (by omega) hon, hx, hso.2, Nat.sub_sub])
      rw [← hx] at hso
      have HSO := hide hso
      have HX := hide hx
      rw [hon] at c17
      clear hso hx r0 r1 r2 r3 r4 rf c18 c19 c21 c22 hon
      go_wp2_with fail
      refine (unhide KT).mono ?_
      rintro e w5 ⟨rfl, ⟨vo', vs', hI5⟩, hb5⟩
      have HI5 := hide hI5
      have HB5 := hide ((unhide HB).trans hb5)
      have h5 := (unhide HSO).2
      have hm := stepsOf_eq hI5.1
      have hm0 := stepsOf_eq (unhide HI).1
      have HM := hide hm
      have HM0 := hide hm0
      clear hI5 hb5 hm hm0 KT
      go_wp2_with fail
      go_roundw
      case rel => exact ⟨stepSt x s, vo', vs', unhide HI5, unhide hn, by omega, (unhide HSO).1, unhide HB5⟩
      case measure => rw [unhide HM, unhide HM0, h5]; omega
    · have hend := hide (show runSt L fuel.toNat (st0 xs) = s by
        rw [unhide HC]
        cases hon : s.on with
        | false => exact run_off _ _ _ hon
        | true =>
          rw [show fuel.toNat - s.steps = 0 by
            rcases Nat.lt_or_ge s.steps fuel.toNat with h | h
            · exact absurd ⟨hon, h⟩ hgo
            · omega]
          rfl)
      have HOo := hide (unhide HI).2.1
      have HOs := hide (unhide HI).2.2
      have hcase : s.on = false ∨ (s.on = true ∧ fuel ≤ (s.steps : Int)) := by
        cases hon : s.on with
        | false => exact .inl rfl
        | true => exact .inr ⟨rfl, by
            rcases Nat.lt_or_ge s.steps fuel.toNat with h | h
            · exact absurd ⟨hon, h⟩ hgo
            · omega⟩
      clear hgo
      obtain ⟨ao, no, co, rfl⟩ := own_slice (unhide HOo)
      obtain ⟨az, ns, cz, rfl⟩ := own_slice (unhide HOs)
      rcases hcase with hon | ⟨hon, hf⟩
      all_goals
        rw [hon] at c17
        clear hon
        go_wp2_with fail
        refine bodyPost_ret (results_res rfl _ _ (w.heap.size + 1) _ rfl (set5 (unhide HRr) _ _ _ _ _) rfl) rfl ?_
        rw [unhide he, unhide hend]
        exact ⟨_, rfl, ⟨_, _, rfl, own_weaken (own5 (unhide HOo) (by omega) _ _ _ _ _) (by omega), own_weaken (own5 (unhide HOs) (by omega) _ _ _ _ _) (by omega)⟩, below5 (unhide HBr) (Nat.le_succ _) _ _ _ _ _⟩
end Go.Proofs.YtoepcplbpochpaaDoor

/-
  What the document's own nexts answers.
-/
namespace Go.Proofs.YtoepcplbpochpaaDoor
open Go.RowKit

/-- A program, boxed. -/
theorem pbox (w : World) (P R V : Int) (sl : Value) : ∃ w1, w1 = w.alloc (.cells #[.int .i64 P, .int .i64 R, .int .i64 V, sl] 24) ∧ Hid (ProgB w1 w.heap.size P R V sl) ∧ Hid (Below w.heap.size w w1) ∧ w1.heap.size = w.heap.size + 1 :=
  ⟨_, rfl, progb_alloc w P R V sl, below_alloc _ _, by simp⟩
theorem held_one (w0 : World) (a : Int) : HeldI (w0.alloc (.cells #[.int .i64 a] 3)) (some ⟨w0.heap.size, 0, none⟩) [a] :=
  .inr ⟨w0.heap.size, 0, rfl, by simp, fun i hi => by
    have : i = 0 := by have : i < 1 := hi; omega
    subst this; rw [World.cell?_alloc_at (hn := rfl)]; rfl⟩
theorem held_two (w0 : World) (a b : Int) : HeldI (w0.alloc (.cells #[.int .i64 a, .int .i64 b] 3)) (some ⟨w0.heap.size, 0, none⟩) [a, b] :=
  .inr ⟨w0.heap.size, 0, rfl, by simp, fun i hi => by
    have : i = 0 ∨ i = 1 := by have : i < 2 := hi; omega
    rcases this with rfl | rfl <;> (rw [World.cell?_alloc_at (hn := rfl)]; rfl)⟩

def NextPost (w : World) (x : In4) (i : Nat) (e : Ending) (w' : World) : Prop := ∃ so sc, e = .returned (.slice so (nxtL x i).length sc) ∧ HeldI w' so (nxtL x i) ∧ Below w.heap.size w w' ∧ (so = none → sc = 0 ∧ nxtL x i = [])
set_option maxRecDepth 100000 in
set_option maxHeartbeats 4000000 in
theorem nexts_any (P R V : Int) (L : List In4) (ao : Option Addr) (cap i : Nat) (hi : i < L.length) (hl : L.length ≤ 40) (w : World) (hH : HeldIns w ao L) :
    Calls Tryd.prog 108 #[.agg #[.int .i64 P, .int .i64 R, .int .i64 V, .slice ao L.length cap], .int .i64 i] w (NextPost w (inAt L i) i) := by
  obtain ⟨w1, hw1, HP1, HL1, hz1⟩ := pbox w P R V (.slice ao L.length cap)
  obtain ⟨b, off, rfl, hb, g⟩ : ∃ b off, ao = some ⟨b, off, none⟩ ∧ b < w.heap.size ∧ LieI w b off L := by
    rcases hH with h | h
    · rw [h] at hi; exact absurd hi (Nat.not_lt_zero _)
    · exact h
  obtain ⟨c0, c1, c2, c3⟩ := (g i hi).below (unhide HL1) hb
  have p3 := (unhide HP1).c3
  have HW := hide hw1
  have i0 : (0 : Int) ≤ (i : Int) := by omega
  have i1 : (i : Int) < (L.length : Int) := by omega
  have wi : IntKind.i64.wrap ((i : Int) + 1) = (i : Int) + 1 := by rw [IntKind.wrap_i64]; omega
  obtain ⟨x, hx⟩ : ∃ x, x = inAt L i := ⟨_, rfl⟩
  rw [← hx] at c0 c1 c2 c3
  rw [← hx]
  obtain ⟨op, d, a, b'⟩ := x
  simp only at c0 c1 c2 c3
  obtain ⟨w2, hw2⟩ : ∃ w2, w2 = w1.alloc (.cells #[.int .i64 op, .int .i64 d, .int .i64 a, .int .i64 b'] 77) := ⟨_, rfl⟩
  have q : ∀ j, w2.cell? ⟨w1.heap.size, j, none⟩ = #[Value.int .i64 op, .int .i64 d, .int .i64 a, .int .i64 b'][j]? := fun j => by rw [hw2]; exact World.cell?_alloc_at (hn := rfl) ..
  have y0 : w2.cell? ⟨w1.heap.size, 0, none⟩ = some (.int .i64 op) := q 0
  have y2 : w2.cell? ⟨w1.heap.size, 2, none⟩ = some (.int .i64 a) := q 2
  have y3 : w2.cell? ⟨w1.heap.size, 3, none⟩ = some (.int .i64 b') := q 3
  have HL2 : Hid (Below w.heap.size w w2) := by
    have : Below w1.heap.size w1 w2 := by rw [hw2]; exact below_alloc _ _
    exact (unhide HL1).trans (this.mono (by omega))
  have HW2 := hide hw2
  clear hw1 hw2 HP1 HL1 g hH hx q
  rw [hz1] at y0 y2 y3
  by_cases h7 : op = 7
  · subst h7
    go_enter Tryd.func108, Tryd.ntmps108
    go_upto_region 1 with fail
    rw [← unhide HW]
    go_upto_region 2 with fail
    rw [← unhide HW2]
    go_wp2_with fail
    go_returns
    exact ⟨_, _, rfl, held_one w2 a, (unhide HL2).alloc (unhide HL2).size _, fun h => by cases h⟩
  have g7 : (op == 7) = false := by rw [beq_eq_false_iff_ne]; exact h7
  by_cases h8 : op = 8
  · subst h8
    go_enter Tryd.func108, Tryd.ntmps108
    go_upto_region 1 with fail
    rw [← unhide HW]
    go_upto_region 2 with fail
    rw [← unhide HW2]
    go_wp2_with fail
    go_returns
    exact ⟨_, _, rfl, held_two w2 b' ((i : Int) + 1), (unhide HL2).alloc (unhide HL2).size _, fun h => by cases h⟩
  have g8 : (op == 8) = false := by rw [beq_eq_false_iff_ne]; exact h8
  by_cases h10 : op = 10
  · subst h10
    go_enter Tryd.func108, Tryd.ntmps108
    go_upto_region 1 with fail
    rw [← unhide HW]
    go_upto_region 2 with fail
    rw [← unhide HW2]
    go_wp2_with fail
    go_returns
    exact ⟨_, _, rfl, .inl rfl, unhide HL2, fun _ => ⟨rfl, rfl⟩⟩
  have g10 : (op == 10) = false := by rw [beq_eq_false_iff_ne]; exact h10
  have HE : Hid (nxtL ⟨op, d, a, b'⟩ i = [(i : Int) + 1]) := by unfold Hid nxtL; rw [if_neg h7, if_neg h8, if_neg h10]
  go_enter Tryd.func108, Tryd.ntmps108
  go_upto_region 1 with fail
  rw [← unhide HW]
  go_upto_region 2 with fail
  rw [← unhide HW2]
  go_wp2_with fail
  go_returns
  unfold NextPost
  rw [unhide HE]
  exact ⟨_, _, rfl, held_one w2 ((i : Int) + 1), (unhide HL2).alloc (unhide HL2).size _, fun h => by cases h⟩
end Go.Proofs.YtoepcplbpochpaaDoor

/-
  Lists of what was seen at Stops, in memory; what a run owns is held.
-/
namespace Go.Proofs.YtoepcplbpochpaaDoor
open Go.RowKit

/-- A list of what was seen lies somewhere. -/
def snAt (l : List Sn) (i : Nat) : Sn := l.getD i ⟨0, 0, 0, 0, 0⟩
def Sn.v (x : Sn) (j : Nat) : Int := if j = 0 then x.v0 else if j = 1 then x.v1 else if j = 2 then x.v2 else x.v3
def SeenC (w : World) (b o : Nat) (x : Sn) : Prop := w.cell? ⟨b, o, none⟩ = some (.int .i64 x.no) ∧ ∀ j, j < 4 → w.cell? ⟨b, o + 1 + j, none⟩ = some (.int .i64 (x.v j))
def HeldS (w : World) (ao : Option Addr) (l : List Sn) : Prop := l = [] ∨ ∃ b off, ao = some ⟨b, off, none⟩ ∧ b < w.heap.size ∧ ∀ i, i < l.length → SeenC w b (off + i * 5) (snAt l i)

theorem snCells_at : ∀ (l : List Sn) (i : Nat), i < l.length → ∀ j, j < 5 → (snCells l)[i * 5 + j]? = (snAt l i).cells[j]?
  | [], i, h, _, _ => absurd h (by simp)
  | r :: R, 0, _, j, hj => by
    unfold snCells; rw [List.flatMap_cons, Nat.zero_mul, Nat.zero_add, List.getElem?_append_left (by exact hj)]; rfl
  | r :: R, i + 1, h, j, hj => by
    have ih := snCells_at R i (by simpa using h) j hj
    unfold snCells at *
    rw [List.flatMap_cons, List.getElem?_append_right (by show 5 ≤ _; omega), show (i + 1) * 5 + j - r.cells.length = i * 5 + j by show _ - 5 = _; omega, ih]
    rfl
theorem own_heldI {w : World} {base : Nat} {v : Value} {xs : List Int} (h : w.ownsRow base 3 1 v xs.length (intCells xs)) : ∃ ao cap, v = .slice ao xs.length cap ∧ HeldI w ao xs ∧ xs.length ≤ maxLen := by
  rcases h.2 with ⟨rfl, h0⟩ | ⟨g, cap, cur, rfl, h2, h3, h4, h5, h6, h7⟩
  · have : xs = [] := List.length_eq_zero_iff.1 h0
    subst this
    exact ⟨none, 0, rfl, .inl rfl, by decide⟩
  · refine ⟨some ⟨g, 0, none⟩, cap, rfl, .inr ⟨g, 0, rfl, (Array.getElem?_eq_some_iff.1 h3).1, fun i hi => ?_⟩, by omega⟩
    rw [Nat.zero_add, h.cellAt i (by omega)]
    unfold intCells nth
    rw [List.getElem?_map, List.getElem?_eq_getElem hi, List.getD_eq_getElem?_getD, List.getElem?_eq_getElem hi]
    rfl
theorem own_heldS {w : World} {base : Nat} {v : Value} {l : List Sn} (h : w.ownsRow base 63 5 v l.length (snCells l)) : ∃ ao cap, v = .slice ao l.length cap ∧ HeldS w ao l ∧ l.length ≤ maxLen := by
  rcases h.2 with ⟨rfl, h0⟩ | ⟨g, cap, cur, rfl, h2, h3, h4, h5, h6, h7⟩
  · have : l = [] := List.length_eq_zero_iff.1 h0
    subst this
    exact ⟨none, 0, rfl, .inl rfl, by decide⟩
  · refine ⟨some ⟨g, 0, none⟩, cap, rfl, .inr ⟨g, 0, rfl, (Array.getElem?_eq_some_iff.1 h3).1, fun i hi => ?_⟩, by omega⟩
    have key : ∀ j, j < 5 → w.cell? ⟨g, i * 5 + j, none⟩ = (snAt l i).cells[j]? := fun j hj => by
      rw [h.cellAt (i * 5 + j) (by omega), snCells_at l i hi j hj]
    rw [Nat.zero_add]
    refine ⟨key 0 (by decide), fun j hj => ?_⟩
    rcases (show j = 0 ∨ j = 1 ∨ j = 2 ∨ j = 3 by omega) with rfl | rfl | rfl | rfl
    · exact key 1 (by decide)
    · exact key 2 (by decide)
    · exact key 3 (by decide)
    · exact key 4 (by decide)
theorem HeldS.below {w w' : World} {ao : Option Addr} {l : List Sn} (h : HeldS w ao l) (hb : Below w.heap.size w w') : HeldS w' ao l := by
  rcases h with h | ⟨b, off, e, hB, hL⟩
  · exact .inl h
  · exact .inr ⟨b, off, e, Nat.lt_of_lt_of_le hB hb.size, fun i hi => ⟨(hb.cell (p := ⟨b, off + i * 5, none⟩) hB).trans (hL i hi).1, fun j hj => (hb.cell (p := ⟨b, off + i * 5 + 1 + j, none⟩) hB).trans ((hL i hi).2 j hj)⟩⟩

end Go.Proofs.YtoepcplbpochpaaDoor

/-
  A new row of Booleans (make([]bool, n)), and the search's measure off the world.
-/
namespace Go.Proofs.YtoepcplbpochpaaDoor
open Go.RowKit

theorem Tryd.i4 : (Tryd.prog.info? 4).map (fun i => (i.zero, i.size, i.bytes)) = some (some (.bool false), 1, 1) := by kernel_rfl
theorem made_row (n : Nat) (v : Value) : madeCells #[v] n = rowA n (fun _ => v) := by
  refine rowA_ext (by simp [madeCells]) (fun i hi => ?_)
  simp [madeCells, hi, Nat.mod_one]
theorem makeB (n : Nat) (hn : n ≤ 200) (w : World) : (Instr.makeSlice 59 (.int .i64 (n : Int)) (.int .i64 (n : Int))).run Tryd.prog w = .ok (.slice (some ⟨w.heap.size, 0, none⟩) n n) (w.alloc (.cells (rowA n (fun _ => .bool false)) 4)) := by
  obtain ⟨i0, hi, hz0, hz1, hz2⟩ := info_parts Tryd.i4
  have := run_make (P := Tryd.prog) w 59 4 i0 (.bool false) Tryd.underlying59 hi hz0 .i64 .i64 (n : Int) (n : Int) (by omega) (by omega) (by rw [hz2]; omega) (by omega)
  rw [hz1, show (Value.bool false).cells = #[.bool false] from rfl] at this
  rw [← made_row]
  simpa using this
/-- The places that the search has been at, off the world. -/
def beenW (w : World) (N k : Nat) : Bool := match w.cell? ⟨N, k, none⟩ with
  | some (.bool b) => b
  | _ => false
theorem beenW_row {w : World} {N T n : Nat} {been : Nat → Bool} (h : Rowd w N T n (fun k => .bool (been k))) {k : Nat} (hk : k < n) : beenW w N k = been k := by
  unfold beenW; rw [h.cell hk]
theorem newC_row {w : World} {N T n : Nat} {been : Nat → Bool} (h : Rowd w N T n (fun k => .bool (been k))) : ∀ m, m ≤ n → newC (beenW w N) m = newC been m
  | 0, _ => rfl
  | m + 1, hm => by unfold newC; rw [newC_row h m (by omega), beenW_row h (by omega)]
theorem been_set {w : World} {N T n j : Nat} {been : Nat → Bool} (h : Rowd w N T n (fun k => .bool (been k))) : Rowd (w.setCell ⟨N, j, none⟩ (.bool true)) N T n (fun k => .bool (k == j || been k)) :=
  (h.set j (.bool true)).congr (fun i _ => by
    by_cases e : i = j
    · rw [if_pos e, e, beq_self_eq_true, Bool.true_or]
    · have e' : (i == j) = false := by rw [beq_eq_false_iff_ne]; exact e
      rw [if_neg e, e', Bool.false_or])
end Go.Proofs.YtoepcplbpochpaaDoor

/-
  The list of what is still to be looked at: its last number, and what is left without it.
-/
namespace Go.Proofs.YtoepcplbpochpaaDoor
open Go.RowKit

/-- The list's last number, and the list without it. -/
theorem todo_last {w : World} {base : Nat} {v : Value} {t : List Int} {z : Int} (h : w.ownsRow base 3 1 v (t ++ [z]).length (intCells (t ++ [z]))) :
    ∃ g cap, v = .slice (some ⟨g, 0, none⟩) (t.length + 1) cap ∧ base ≤ g ∧ g < w.heap.size ∧ t.length + 1 ≤ cap ∧ w.cell? ⟨g, t.length, none⟩ = some (.int .i64 z) ∧ w.ownsRow base 3 1 (.slice (some ⟨g, 0, none⟩) t.length cap) t.length (intCells t) := by
  have hl : (t ++ [z]).length = t.length + 1 := by rw [List.length_append]; rfl
  rw [hl] at h
  obtain ⟨g, cap, rfl, hb, hg⟩ := h.form (by omega)
  have hcap : t.length + 1 ≤ cap := by
    rcases h.2 with ⟨h0, _⟩ | ⟨g', cap', cur, hv, _, _, hn, _⟩
    · cases h0
    · cases hv; exact hn
  refine ⟨g, cap, rfl, hb, hg, hcap, ?_, ?_⟩
  · have := h.cellAt t.length (by omega)
    rw [this, intCells_snoc, List.getElem?_append_right (by rw [intCells_len]; exact Nat.le_refl _), intCells_len, Nat.sub_self]
    rfl
  · rw [intCells_snoc] at h
    exact ownsRow_pop (by rw [intCells_len, Nat.mul_one]) h
/-- A list of one number that was built. -/
theorem todo_new (w : World) (z : Int) : (w.alloc (.cells #[.int .i64 z] 3)).ownsRow w.heap.size 3 1 (.slice (some ⟨w.heap.size, 0, none⟩) 1 1) [z].length (intCells [z]) :=
  ⟨rfl, .inr ⟨w.heap.size, 1, #[.int .i64 z], rfl, Nat.le_refl _, by show (w.heap.push _)[w.heap.size]? = _; simp, Nat.le_refl _, by decide, rfl, rfl⟩⟩
end Go.Proofs.YtoepcplbpochpaaDoor

/-
  What lodgeref.Form and lodgeref.ops compute.
-/
namespace Go.Proofs.YtoepcplbpochpaaDoor
open Go.RowKit

set_option maxRecDepth 100000 in
set_option maxHeartbeats 4000000 in
theorem form_any (k : Nat) (hk : k < 17) (w : World) :
    Calls Tryd.prog 81 #[.int .i64 (k : Int)] w fun e w' => e = .returned (.string (formS k)) ∧ Below w.heap.size w w' := by
  rcases (show k = 0 ∨ k = 1 ∨ k = 2 ∨ k = 3 ∨ k = 4 ∨ k = 5 ∨ k = 6 ∨ k = 7 ∨ k = 8 ∨ k = 9 ∨ k = 10 ∨ k = 11 ∨ k = 12 ∨ k = 13 ∨ k = 14 ∨ k = 15 ∨ k = 16 by omega) with rfl | rfl | rfl | rfl | rfl | rfl | rfl | rfl | rfl | rfl | rfl | rfl | rfl | rfl | rfl | rfl | rfl
  all_goals
    go_enter Tryd.func81, Tryd.ntmps81
    go_wp2
    go_ret
    exact ⟨rfl, (Below.refl _ _).alloc (Nat.le_refl _) _⟩
end Go.Proofs.YtoepcplbpochpaaDoor

/-
  What the document's own small functions answer: lodgeref.nexts, reads, writes, says.
-/
namespace Go.Proofs.YtoepcplbpochpaaDoor
open Go.RowKit

/-- How often a register is read. -/
def rdC (x : In4) (r : Int) : Nat := (if (x.op = 1 ∨ (2 ≤ x.op ∧ x.op ≤ 6) ∨ x.op = 8 ∨ x.op = 9 ∨ x.op = 10) ∧ x.a = r then 1 else 0) + (if (2 ≤ x.op ∧ x.op ≤ 6) ∧ x.b = r then 1 else 0)
theorem rdC_iff {x : In4} {r : Int} : 0 < rdC x r ↔ rdB x r = true := by
  unfold rdC rdB isRk
  by_cases h : x.op = 1 ∨ x.op = 8 ∨ x.op = 9 ∨ x.op = 10
  · rw [if_pos h, beq_iff_eq]
    by_cases e : x.a = r
    · rw [if_pos ⟨by omega, e⟩]; exact ⟨fun _ => e, fun _ => by omega⟩
    · rw [if_neg (fun h => e h.2), if_neg (fun h => by omega)]; exact ⟨fun h => by omega, fun h => absurd h e⟩
  · rw [if_neg h]
    by_cases g : 2 ≤ x.op ∧ x.op ≤ 6
    · rw [Bool.and_eq_true, Bool.and_eq_true, decide_eq_true_iff, decide_eq_true_iff, Bool.or_eq_true, beq_iff_eq, beq_iff_eq]
      by_cases e : x.a = r
      · rw [if_pos ⟨by omega, e⟩]; exact ⟨fun _ => ⟨g, .inl e⟩, fun _ => by omega⟩
      · rw [if_neg (fun h => e h.2)]
        by_cases f : x.b = r
        · rw [if_pos ⟨g, f⟩]; exact ⟨fun _ => ⟨g, .inr f⟩, fun _ => by omega⟩
        · rw [if_neg (fun h => f h.2)]; exact ⟨fun h => by omega, fun h => by rcases h.2 with h | h; exact absurd h e; exact absurd h f⟩
    · rw [if_neg (fun h => by omega), if_neg (fun h => g h.1), Bool.and_eq_true, Bool.and_eq_true, decide_eq_true_iff, decide_eq_true_iff]
      exact ⟨fun h => by omega, fun h => absurd h.1 g⟩
/-- An instruction that was boxed, behind a call that makes memory. -/
theorem ins_boxed {w w1 : World} {op d a b : Int} (hb : Below (w.alloc (.cells #[.int .i64 op, .int .i64 d, .int .i64 a, .int .i64 b] 77)).heap.size (w.alloc (.cells #[.int .i64 op, .int .i64 d, .int .i64 a, .int .i64 b] 77)) w1) :
    w1.cell? ⟨w.heap.size, 0, none⟩ = some (.int .i64 op) ∧ w1.cell? ⟨w.heap.size, 1, none⟩ = some (.int .i64 d) ∧ w1.cell? ⟨w.heap.size, 2, none⟩ = some (.int .i64 a) ∧ w1.cell? ⟨w.heap.size, 3, none⟩ = some (.int .i64 b) ∧ Below w.heap.size w w1 := by
  refine ⟨?_, ?_, ?_, ?_, ((Below.refl _ _).alloc (Nat.le_refl _) _).trans (hb.mono (by simp))⟩ <;> exact (hb.cell (by simp)).trans (by rw [World.cell?_alloc_at (hn := rfl)]; rfl)
set_option maxRecDepth 100000 in
set_option maxHeartbeats 8000000 in
theorem refWrites_any (op d a b r : Int) (h : 0 ≤ op ∧ op ≤ 14) (w : World) :
    Calls Tryd.prog 66 #[.agg #[.int .i64 op, .int .i64 d, .int .i64 a, .int .i64 b], .int .i64 r] w fun e w' => e = .returned (.bool (wrB ⟨op, d, a, b⟩ r)) ∧ Below w.heap.size w w' := by
  rcases (show op = 0 ∨ op = 1 ∨ op = 2 ∨ op = 3 ∨ op = 4 ∨ op = 5 ∨ op = 6 ∨ op = 7 ∨ op = 8 ∨ op = 9 ∨ op = 10 ∨ op = 11 ∨ op = 12 ∨ op = 13 ∨ op = 14 by omega) with rfl | rfl | rfl | rfl | rfl | rfl | rfl | rfl | rfl | rfl | rfl | rfl | rfl | rfl | rfl
  · have FK := hide (fun w => form_any 0 (by decide) w)
    rw [show formS 0 = ⟨#[114, 99, 45]⟩ from rfl, show ((0 : Nat) : Int) = 0 from rfl] at FK
    by_cases hd : d = r
    · subst hd
      have HE := hide (show wrB ⟨0, d, a, b⟩ d = true by unfold wrB; rw [beq_self_eq_true]; rfl)
      go_enter Tryd.func66, Tryd.ntmps66
      go_wp2_with fail
      refine (unhide FK _).mono ?_
      rintro _ w1 ⟨rfl, hb1⟩
      obtain ⟨y0, y1, y2, y3, hbw⟩ := ins_boxed hb1
      clear hb1
      go_wp2_with fail
      go_ret
      exact ⟨ret_bool (unhide HE).symm, hbw⟩
    · have hd' : (d == r) = false := by rw [beq_eq_false_iff_ne]; exact hd
      have HE := hide (show wrB ⟨0, d, a, b⟩ r = false by unfold wrB; rw [show ((⟨0, d, a, b⟩ : In4).d == r) = false from hd', Bool.and_false])
      go_enter Tryd.func66, Tryd.ntmps66
      go_wp2_with fail
      refine (unhide FK _).mono ?_
      rintro _ w1 ⟨rfl, hb1⟩
      obtain ⟨y0, y1, y2, y3, hbw⟩ := ins_boxed hb1
      clear hb1
      go_wp2_with fail
      go_ret
      exact ⟨ret_bool (unhide HE).symm, hbw⟩
  · have FK := hide (fun w => form_any 1 (by decide) w)
    rw [show formS 1 = ⟨#[114, 114, 45]⟩ from rfl, show ((1 : Nat) : Int) = 1 from rfl] at FK
    by_cases hd : d = r
    · subst hd
      have HE := hide (show wrB ⟨1, d, a, b⟩ d = true by unfold wrB; rw [beq_self_eq_true]; rfl)
      go_enter Tryd.func66, Tryd.ntmps66
      go_wp2_with fail
      refine (unhide FK _).mono ?_
      rintro _ w1 ⟨rfl, hb1⟩
      obtain ⟨y0, y1, y2, y3, hbw⟩ := ins_boxed hb1
      clear hb1
      go_wp2_with fail
      go_ret
      exact ⟨ret_bool (unhide HE).symm, hbw⟩
    · have hd' : (d == r) = false := by rw [beq_eq_false_iff_ne]; exact hd
      have HE := hide (show wrB ⟨1, d, a, b⟩ r = false by unfold wrB; rw [show ((⟨1, d, a, b⟩ : In4).d == r) = false from hd', Bool.and_false])
      go_enter Tryd.func66, Tryd.ntmps66
      go_wp2_with fail
      refine (unhide FK _).mono ?_
      rintro _ w1 ⟨rfl, hb1⟩
      obtain ⟨y0, y1, y2, y3, hbw⟩ := ins_boxed hb1
      clear hb1
      go_wp2_with fail
      go_ret
      exact ⟨ret_bool (unhide HE).symm, hbw⟩
  · have FK := hide (fun w => form_any 2 (by decide) w)
    rw [show formS 2 = ⟨#[114, 114, 114]⟩ from rfl, show ((2 : Nat) : Int) = 2 from rfl] at FK
    by_cases hd : d = r
    · subst hd
      have HE := hide (show wrB ⟨2, d, a, b⟩ d = true by unfold wrB; rw [beq_self_eq_true]; rfl)
      go_enter Tryd.func66, Tryd.ntmps66
      go_wp2_with fail
      refine (unhide FK _).mono ?_
      rintro _ w1 ⟨rfl, hb1⟩
      obtain ⟨y0, y1, y2, y3, hbw⟩ := ins_boxed hb1
      clear hb1
      go_wp2_with fail
      go_ret
      exact ⟨ret_bool (unhide HE).symm, hbw⟩
    · have hd' : (d == r) = false := by rw [beq_eq_false_iff_ne]; exact hd
      have HE := hide (show wrB ⟨2, d, a, b⟩ r = false by unfold wrB; rw [show ((⟨2, d, a, b⟩ : In4).d == r) = false from hd', Bool.and_false])
      go_enter Tryd.func66, Tryd.ntmps66
      go_wp2_with fail
      refine (unhide FK _).mono ?_
      rintro _ w1 ⟨rfl, hb1⟩
      obtain ⟨y0, y1, y2, y3, hbw⟩ := ins_boxed hb1
      clear hb1
      go_wp2_with fail
      go_ret
      exact ⟨ret_bool (unhide HE).symm, hbw⟩
  · have FK := hide (fun w => form_any 3 (by decide) w)
    rw [show formS 3 = ⟨#[114, 114, 114]⟩ from rfl, show ((3 : Nat) : Int) = 3 from rfl] at FK
    by_cases hd : d = r
    · subst hd
      have HE := hide (show wrB ⟨3, d, a, b⟩ d = true by unfold wrB; rw [beq_self_eq_true]; rfl)
      go_enter Tryd.func66, Tryd.ntmps66
      go_wp2_with fail
      refine (unhide FK _).mono ?_
      rintro _ w1 ⟨rfl, hb1⟩
      obtain ⟨y0, y1, y2, y3, hbw⟩ := ins_boxed hb1
      clear hb1
      go_wp2_with fail
      go_ret
      exact ⟨ret_bool (unhide HE).symm, hbw⟩
    · have hd' : (d == r) = false := by rw [beq_eq_false_iff_ne]; exact hd
      have HE := hide (show wrB ⟨3, d, a, b⟩ r = false by unfold wrB; rw [show ((⟨3, d, a, b⟩ : In4).d == r) = false from hd', Bool.and_false])
      go_enter Tryd.func66, Tryd.ntmps66
      go_wp2_with fail
      refine (unhide FK _).mono ?_
      rintro _ w1 ⟨rfl, hb1⟩
      obtain ⟨y0, y1, y2, y3, hbw⟩ := ins_boxed hb1
      clear hb1
      go_wp2_with fail
      go_ret
      exact ⟨ret_bool (unhide HE).symm, hbw⟩
  · have FK := hide (fun w => form_any 4 (by decide) w)
    rw [show formS 4 = ⟨#[114, 114, 114]⟩ from rfl, show ((4 : Nat) : Int) = 4 from rfl] at FK
    by_cases hd : d = r
    · subst hd
      have HE := hide (show wrB ⟨4, d, a, b⟩ d = true by unfold wrB; rw [beq_self_eq_true]; rfl)
      go_enter Tryd.func66, Tryd.ntmps66
      go_wp2_with fail
      refine (unhide FK _).mono ?_
      rintro _ w1 ⟨rfl, hb1⟩
      obtain ⟨y0, y1, y2, y3, hbw⟩ := ins_boxed hb1
      clear hb1
      go_wp2_with fail
      go_ret
      exact ⟨ret_bool (unhide HE).symm, hbw⟩
    · have hd' : (d == r) = false := by rw [beq_eq_false_iff_ne]; exact hd
      have HE := hide (show wrB ⟨4, d, a, b⟩ r = false by unfold wrB; rw [show ((⟨4, d, a, b⟩ : In4).d == r) = false from hd', Bool.and_false])
      go_enter Tryd.func66, Tryd.ntmps66
      go_wp2_with fail
      refine (unhide FK _).mono ?_
      rintro _ w1 ⟨rfl, hb1⟩
      obtain ⟨y0, y1, y2, y3, hbw⟩ := ins_boxed hb1
      clear hb1
      go_wp2_with fail
      go_ret
      exact ⟨ret_bool (unhide HE).symm, hbw⟩
  · have FK := hide (fun w => form_any 5 (by decide) w)
    rw [show formS 5 = ⟨#[114, 114, 114]⟩ from rfl, show ((5 : Nat) : Int) = 5 from rfl] at FK
    by_cases hd : d = r
    · subst hd
      have HE := hide (show wrB ⟨5, d, a, b⟩ d = true by unfold wrB; rw [beq_self_eq_true]; rfl)
      go_enter Tryd.func66, Tryd.ntmps66
      go_wp2_with fail
      refine (unhide FK _).mono ?_
      rintro _ w1 ⟨rfl, hb1⟩
      obtain ⟨y0, y1, y2, y3, hbw⟩ := ins_boxed hb1
      clear hb1
      go_wp2_with fail
      go_ret
      exact ⟨ret_bool (unhide HE).symm, hbw⟩
    · have hd' : (d == r) = false := by rw [beq_eq_false_iff_ne]; exact hd
      have HE := hide (show wrB ⟨5, d, a, b⟩ r = false by unfold wrB; rw [show ((⟨5, d, a, b⟩ : In4).d == r) = false from hd', Bool.and_false])
      go_enter Tryd.func66, Tryd.ntmps66
      go_wp2_with fail
      refine (unhide FK _).mono ?_
      rintro _ w1 ⟨rfl, hb1⟩
      obtain ⟨y0, y1, y2, y3, hbw⟩ := ins_boxed hb1
      clear hb1
      go_wp2_with fail
      go_ret
      exact ⟨ret_bool (unhide HE).symm, hbw⟩
  · have FK := hide (fun w => form_any 6 (by decide) w)
    rw [show formS 6 = ⟨#[114, 114, 114]⟩ from rfl, show ((6 : Nat) : Int) = 6 from rfl] at FK
    by_cases hd : d = r
    · subst hd
      have HE := hide (show wrB ⟨6, d, a, b⟩ d = true by unfold wrB; rw [beq_self_eq_true]; rfl)
      go_enter Tryd.func66, Tryd.ntmps66
      go_wp2_with fail
      refine (unhide FK _).mono ?_
      rintro _ w1 ⟨rfl, hb1⟩
      obtain ⟨y0, y1, y2, y3, hbw⟩ := ins_boxed hb1
      clear hb1
      go_wp2_with fail
      go_ret
      exact ⟨ret_bool (unhide HE).symm, hbw⟩
    · have hd' : (d == r) = false := by rw [beq_eq_false_iff_ne]; exact hd
      have HE := hide (show wrB ⟨6, d, a, b⟩ r = false by unfold wrB; rw [show ((⟨6, d, a, b⟩ : In4).d == r) = false from hd', Bool.and_false])
      go_enter Tryd.func66, Tryd.ntmps66
      go_wp2_with fail
      refine (unhide FK _).mono ?_
      rintro _ w1 ⟨rfl, hb1⟩
      obtain ⟨y0, y1, y2, y3, hbw⟩ := ins_boxed hb1
      clear hb1
      go_wp2_with fail
      go_ret
      exact ⟨ret_bool (unhide HE).symm, hbw⟩
  · have FK := hide (fun w => form_any 7 (by decide) w)
    rw [show formS 7 = ⟨#[45, 116, 45]⟩ from rfl, show ((7 : Nat) : Int) = 7 from rfl] at FK
    have HE := hide (show wrB ⟨7, d, a, b⟩ r = false from rfl)
    go_enter Tryd.func66, Tryd.ntmps66
    go_wp2_with fail
    refine (unhide FK _).mono ?_
    rintro _ w1 ⟨rfl, hb1⟩
    obtain ⟨y0, y1, y2, y3, hbw⟩ := ins_boxed hb1
    clear hb1
    go_wp2_with fail
    go_ret
    exact ⟨ret_bool (unhide HE).symm, hbw⟩
  · have FK := hide (fun w => form_any 8 (by decide) w)
    rw [show formS 8 = ⟨#[45, 114, 116]⟩ from rfl, show ((8 : Nat) : Int) = 8 from rfl] at FK
    have HE := hide (show wrB ⟨8, d, a, b⟩ r = false from rfl)
    go_enter Tryd.func66, Tryd.ntmps66
    go_wp2_with fail
    refine (unhide FK _).mono ?_
    rintro _ w1 ⟨rfl, hb1⟩
    obtain ⟨y0, y1, y2, y3, hbw⟩ := ins_boxed hb1
    clear hb1
    go_wp2_with fail
    go_ret
    exact ⟨ret_bool (unhide HE).symm, hbw⟩
  · have FK := hide (fun w => form_any 9 (by decide) w)
    rw [show formS 9 = ⟨#[45, 114, 45]⟩ from rfl, show ((9 : Nat) : Int) = 9 from rfl] at FK
    have HE := hide (show wrB ⟨9, d, a, b⟩ r = false from rfl)
    go_enter Tryd.func66, Tryd.ntmps66
    go_wp2_with fail
    refine (unhide FK _).mono ?_
    rintro _ w1 ⟨rfl, hb1⟩
    obtain ⟨y0, y1, y2, y3, hbw⟩ := ins_boxed hb1
    clear hb1
    go_wp2_with fail
    go_ret
    exact ⟨ret_bool (unhide HE).symm, hbw⟩
  · have FK := hide (fun w => form_any 10 (by decide) w)
    rw [show formS 10 = ⟨#[45, 114, 45]⟩ from rfl, show ((10 : Nat) : Int) = 10 from rfl] at FK
    have HE := hide (show wrB ⟨10, d, a, b⟩ r = false from rfl)
    go_enter Tryd.func66, Tryd.ntmps66
    go_wp2_with fail
    refine (unhide FK _).mono ?_
    rintro _ w1 ⟨rfl, hb1⟩
    obtain ⟨y0, y1, y2, y3, hbw⟩ := ins_boxed hb1
    clear hb1
    go_wp2_with fail
    go_ret
    exact ⟨ret_bool (unhide HE).symm, hbw⟩
  · have FK := hide (fun w => form_any 11 (by decide) w)
    rw [show formS 11 = ⟨#[45, 115, 45]⟩ from rfl, show ((11 : Nat) : Int) = 11 from rfl] at FK
    have HE := hide (show wrB ⟨11, d, a, b⟩ r = false from rfl)
    go_enter Tryd.func66, Tryd.ntmps66
    go_wp2_with fail
    refine (unhide FK _).mono ?_
    rintro _ w1 ⟨rfl, hb1⟩
    obtain ⟨y0, y1, y2, y3, hbw⟩ := ins_boxed hb1
    clear hb1
    go_wp2_with fail
    go_ret
    exact ⟨ret_bool (unhide HE).symm, hbw⟩
  · have FK := hide (fun w => form_any 12 (by decide) w)
    rw [show formS 12 = ⟨#[118, 114, 45]⟩ from rfl, show ((12 : Nat) : Int) = 12 from rfl] at FK
    have HE := hide (show wrB ⟨12, d, a, b⟩ r = false from rfl)
    go_enter Tryd.func66, Tryd.ntmps66
    go_wp2_with fail
    refine (unhide FK _).mono ?_
    rintro _ w1 ⟨rfl, hb1⟩
    obtain ⟨y0, y1, y2, y3, hbw⟩ := ins_boxed hb1
    clear hb1
    go_wp2_with fail
    go_ret
    exact ⟨ret_bool (unhide HE).symm, hbw⟩
  · have FK := hide (fun w => form_any 13 (by decide) w)
    rw [show formS 13 = ⟨#[118, 99, 45]⟩ from rfl, show ((13 : Nat) : Int) = 13 from rfl] at FK
    have HE := hide (show wrB ⟨13, d, a, b⟩ r = false from rfl)
    go_enter Tryd.func66, Tryd.ntmps66
    go_wp2_with fail
    refine (unhide FK _).mono ?_
    rintro _ w1 ⟨rfl, hb1⟩
    obtain ⟨y0, y1, y2, y3, hbw⟩ := ins_boxed hb1
    clear hb1
    go_wp2_with fail
    go_ret
    exact ⟨ret_bool (unhide HE).symm, hbw⟩
  · have FK := hide (fun w => form_any 14 (by decide) w)
    rw [show formS 14 = ⟨#[118, 45, 45]⟩ from rfl, show ((14 : Nat) : Int) = 14 from rfl] at FK
    have HE := hide (show wrB ⟨14, d, a, b⟩ r = false from rfl)
    go_enter Tryd.func66, Tryd.ntmps66
    go_wp2_with fail
    refine (unhide FK _).mono ?_
    rintro _ w1 ⟨rfl, hb1⟩
    obtain ⟨y0, y1, y2, y3, hbw⟩ := ins_boxed hb1
    clear hb1
    go_wp2_with fail
    go_ret
    exact ⟨ret_bool (unhide HE).symm, hbw⟩
end Go.Proofs.YtoepcplbpochpaaDoor
