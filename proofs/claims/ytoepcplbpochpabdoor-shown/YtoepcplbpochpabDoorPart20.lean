/-
  What the program's own unit's run tells at a Stop: (*mach.run).held, (*mach.run).ask.
-/
import Derived.Test.YtoepcplbpochpabDoorPart15
import Derived.Deep.RegionHeld3
import Derived.Handy
import Derived.Test.YtoepcplbpochpabDoorPart14
import Derived.Test.YtoepcplbpochpabDoorPart4
import Derived.Deep.WholeRow

namespace Go.Proofs.YtoepcplbpochpabDoor
open Go.RowKit

set_option maxRecDepth 100000 in
set_option maxHeartbeats 2000000 in
theorem held_any (B : Nat) (s : St) (vo vs : Value) (r : Rg) (w : World) (h : StB w B s vo vs) (hnv : s.env.nv = 16) (ha : r.k = 0 ∨ r.k = 1 → 0 ≤ r.a ∧ r.a < 16) :
    Calls Tryd.prog 68 #[.pointer (some ⟨B, 0, none⟩), .agg #[.int .i64 r.v, .int .i64 r.f, .int .i64 r.t, .int .i64 r.k, .int .i64 r.a]] w fun e w' =>
      e = .returned (.int .i64 (heldE s.regs s.vars r)) ∧ Below w.heap.size w w' := by
  have hB := h.lt
  obtain ⟨v, f, t, k, a⟩ := r
  simp only at ha ⊢
  obtain ⟨w2, hw2⟩ : ∃ w2, w2 = w.alloc (.cells #[.int .i64 v, .int .i64 f, .int .i64 t, .int .i64 k, .int .i64 a] 109) := ⟨_, rfl⟩
  have HS2 : Hid (StB w2 B s vo vs) := by rw [hw2]; exact h.of_block (Below.heap_alloc _ _ _ hB)
  have q : ∀ i, w2.cell? ⟨w.heap.size, i, none⟩ = #[Value.int .i64 v, .int .i64 f, .int .i64 t, .int .i64 k, .int .i64 a][i]? := fun i => by rw [hw2]; exact World.cell?_alloc_at (hn := rfl) ..
  have q3 : w2.cell? ⟨w.heap.size, 3, none⟩ = some (.int .i64 k) := (q 3).trans rfl
  have q4 : w2.cell? ⟨w.heap.size, 4, none⟩ = some (.int .i64 a) := (q 4).trans rfl
  have HB2 : Hid (Below w.heap.size w w2) := by rw [hw2]; exact (Below.refl _ _).alloc (Nat.le_refl _) _
  have HW := hide hw2
  clear q hw2 h
  by_cases h0 : k = 0
  · subst h0
    obtain ⟨a0, a1⟩ := ha (.inl rfl)
    obtain ⟨an, rfl⟩ : ∃ an : Nat, a = an := ⟨a.toNat, by omega⟩
    obtain ⟨y, hy⟩ : ∃ y, y = s.regs an := ⟨_, rfl⟩
    have ca : w2.cell? ⟨B, an, none⟩ = some (.int .i64 y) := by rw [hy]; exact (unhide HS2).1 an (by omega)
    have he := hide (show heldE s.regs s.vars ⟨v, f, t, 0, (an : Int)⟩ = y by rw [hy]; rfl)
    clear hy ha
    go_enter Tryd.func68, Tryd.ntmps68
    go_wp2_with fail
    rw [← unhide HW]
    go_wp2_with fail
    go_region_held3 (fun w' => w'.cell? ⟨w.heap.size, 4, none⟩ = some (.int .i64 (an : Int)) ∧ w'.cell? ⟨B, an, none⟩ = some (.int .i64 y)) (simp [*]) (fail)
    go_wp2_with fail
    go_ret
    exact ⟨ret_int (unhide he).symm, (unhide HB2).drew⟩
  by_cases h1 : k = 1
  · subst h1
    obtain ⟨a0, a1⟩ := ha (.inr rfl)
    obtain ⟨an, rfl⟩ : ∃ an : Nat, a = an := ⟨a.toNat, by omega⟩
    obtain ⟨y, hy⟩ : ∃ y, y = s.vars an := ⟨_, rfl⟩
    have ca : w2.cell? ⟨B, 23 + an, none⟩ = some (.int .i64 y) := by rw [hy]; exact (unhide HS2).2.1 an (by omega)
    have he := hide (show heldE s.regs s.vars ⟨v, f, t, 1, (an : Int)⟩ = y by rw [hy]; rfl)
    clear hy ha
    go_enter Tryd.func68, Tryd.ntmps68
    go_wp2_with fail
    rw [← unhide HW]
    go_wp2_with fail
    go_region_held3 (fun w' => w'.cell? ⟨w.heap.size, 4, none⟩ = some (.int .i64 (an : Int)) ∧ w'.cell? ⟨B, 23 + an, none⟩ = some (.int .i64 y)) (simp [*]) (fail)
    go_wp2_with fail
    go_ret
    exact ⟨ret_int (unhide he).symm, (unhide HB2).drew⟩
  · have e0 : (k == 0) = false := by rw [beq_eq_false_iff_ne]; exact h0
    have e1 : (k == 1) = false := by rw [beq_eq_false_iff_ne]; exact h1
    have he := hide (show heldE s.regs s.vars ⟨v, f, t, k, a⟩ = a by unfold heldE; rw [if_neg h0, if_neg h1])
    clear ha
    go_enter Tryd.func68, Tryd.ntmps68
    go_wp2_with fail
    rw [← unhide HW]
    go_wp2_with fail
    go_ret
    exact ⟨ret_int (unhide he).symm, unhide HB2⟩

theorem Tryd.size55 : (Tryd.prog.info? 55).map (·.size) = some 4 := by kernel_rfl
/-- Four numbers in a block. -/
def Four (w : World) (D : Nat) (f : Nat → Int) : Prop := (∀ v, v < 4 → w.cell? ⟨D, v, none⟩ = some (.int .i64 (f v))) ∧ ∀ o, w.frozen? ⟨D, o, none⟩ = false
theorem Four.lt {w : World} {D : Nat} {f : Nat → Int} (h : Four w D f) : D < w.heap.size := World.block_lt_of_cell? w ⟨D, 0, none⟩ (h.1 0 (by decide))
theorem Four.of_block {w w' : World} {D : Nat} {f : Nat → Int} (h : Four w D f) (hb : w'.heap[D]? = w.heap[D]?) : Four w' D f :=
  ⟨fun v hv => (World.cell?_of_block hb).trans (h.1 v hv), fun o => (World.frozen?_of_block hb).trans (h.2 o)⟩
theorem Four.set {w : World} {D : Nat} {f g : Nat → Int} (h : Four w D f) (v : Nat) (hv : v < 4) (y : Int) (hg : ∀ u, u < 4 → g u = if u = v then y else f u) : Four (w.setCell ⟨D, v, none⟩ (.int .i64 y)) D g := by
  refine ⟨fun u hu => ?_, frozen_set h.2⟩
  rw [hg u hu]
  by_cases e : u = v
  · subst e; rw [cell_put (h.1 u hu), if_pos rfl]
  · rw [cell_set (h.1 u hu) e, if_neg e]
theorem Four.to {w : World} {D : Nat} {f g : Nat → Int} (h : Four w D f) (hg : ∀ u, u < 4 → g u = f u) : Four w D g := ⟨fun u hu => by rw [hg u hu]; exact h.1 u hu, h.2⟩
theorem four_row {w : World} {D : Nat} {a b c d : Value} {t : TypeId} {f : Nat → Int} (h : w.heap[D]? = some (.cells #[a, b, c, d] t (0, 0))) (h0 : a = .int .i64 (f 0)) (h1 : b = .int .i64 (f 1)) (h2 : c = .int .i64 (f 2)) (h3 : d = .int .i64 (f 3)) : Four w D f := by
  refine ⟨fun v hv => ?_, fun o => by simp [World.frozen?, h]⟩
  rw [cell_of_row w D v _ t (0, 0) h]
  rcases (show v = 0 ∨ v = 1 ∨ v = 2 ∨ v = 3 by omega) with rfl | rfl | rfl | rfl
  · rw [h0]; rfl
  · rw [h1]; rfl
  · rw [h2]; rfl
  · rw [h3]; rfl
theorem set4 {w : World} {g : Nat} {z0 z1 z2 z3 : Value} (h : w.heap[g]? = some (.cells #[z0, z1, z2, z3] 55 (0, 0))) (a b c d : Value) :
    ((((w.setCell ⟨g, 0, none⟩ a).setCell ⟨g, 1, none⟩ b).setCell ⟨g, 2, none⟩ c).setCell ⟨g, 3, none⟩ d).heap[g]? = some (.cells #[a, b, c, d] 55 (0, 0)) := by
  have h0 := heap_setCell_same w g 0 _ 55 a h
  have h1 := heap_setCell_same _ g 1 _ 55 b h0
  have h2 := heap_setCell_same _ g 2 _ 55 c h1
  have h3 := heap_setCell_same _ g 3 _ 55 d h2
  rw [h3]; rfl
theorem below4 {B : Nat} {a w : World} {g : Nat} (h : Below B a w) (hg : B ≤ g) (v0 v1 v2 v3 : Value) : Below B a ((((w.setCell ⟨g, 0, none⟩ v0).setCell ⟨g, 1, none⟩ v1).setCell ⟨g, 2, none⟩ v2).setCell ⟨g, 3, none⟩ v3) :=
  (((h.setCell (p := ⟨g, 0, none⟩) hg _).setCell (p := ⟨g, 1, none⟩) hg _).setCell (p := ⟨g, 2, none⟩) hg _).setCell (p := ⟨g, 3, none⟩) hg _

/-- What the ranges of a unit's table keep to. -/
def RgFit (r : Rg) : Prop := 0 ≤ r.v ∧ r.v < 4 ∧ (r.k = 0 ∨ r.k = 1 → 0 ≤ r.a ∧ r.a < 16)
theorem RightU.fit {K S P V : Int} {L : List In4} {R : List Rg} (h : RightU K S P V L R) : ∀ i, i < R.length → RgFit (rg R i) := fun i hi => by
  have h1 := isTab_rg h.tab hi
  obtain ⟨g1, g2, g3, g4⟩ := h.rgs i hi
  have hv := h.v4
  have hk := h.k16
  have hs := h.s16
  simp [isRg] at h1
  refine ⟨by omega, by omega, fun hk => ?_⟩
  rcases hk with e | e
  · have := g3 e; omega
  · have := g4 e; omega

set_option maxRecDepth 100000 in
set_option maxHeartbeats 4000000 in
theorem ask_any (B : Nat) (s : St) (vo vs : Value) (R : List Rg) (ao : Option Addr) (cap i : Nat) (w : World) (h : StB w B s vo vs) (hE : s.env = unitEnv R (some (.slice ao R.length cap))) (hH : Held w ao R) (hF : ∀ i, i < R.length → RgFit (rg R i)) (hlen : R.length ≤ 1000) :
    Calls Tryd.prog 49 #[.pointer (some ⟨B, 0, none⟩), .int .i64 (i : Int)] w fun e w' =>
      e = .returned (.agg #[.int .i64 (toldTo R s.regs s.vars i 0 R.length), .int .i64 (toldTo R s.regs s.vars i 1 R.length), .int .i64 (toldTo R s.regs s.vars i 2 R.length), .int .i64 (toldTo R s.regs s.vars i 3 R.length)]) ∧ Below w.heap.size w w' := by
  have hB := h.lt
  have hnv : s.env.nv = 16 := by rw [hE]; rfl
  have c39 : w.cell? ⟨B, 39, none⟩ = some (.slice ao R.length cap) := by
    have := h.2.2.2.2.2.2.2.2.2.2 39 (by rw [hnv]; decide)
    rw [hE] at this
    exact this
  have KH := hide (fun (r : Rg) (w : World) (h : StB w B s vo vs) (ha : r.k = 0 ∨ r.k = 1 → 0 ≤ r.a ∧ r.a < 16) => held_any B s vo vs r w h hnv ha)
  have HS := hide h
  have HH := hide hH
  have HF := hide hF
  clear h hH hF hE
  go_enter Tryd.func49, Tryd.ntmps49
  go_wp2
  refine wp_loop_rounds 5 ?_
  iterate 4 (rw [rounds_succ]; go_wp2)
  rw [rounds_succ]
  go_wp2_with fail
  obtain ⟨w1, hw1⟩ : ∃ w1, w1 = (w.alloc (.cells #[.int .i64 0, .int .i64 0, .int .i64 0, .int .i64 0] 55)).alloc (.cells #[.int .i64 (-1), .int .i64 (-1), .int .i64 (-1), .int .i64 (-1)] 55) := ⟨_, rfl⟩
  rw [← hw1]
  have hz1 : w1.heap.size = w.heap.size + 2 := by rw [hw1]; simp
  have HB1 : Hid (Below w.heap.size w w1) := by rw [hw1]; exact ((Below.refl _ _).alloc (Nat.le_refl _) _).alloc (by simp) _
  have HD1 : Hid (Four w1 (w.heap.size + 1) (fun v => toldTo R s.regs s.vars i v 0)) := by
    refine four_row (t := 55) (a := .int .i64 (-1)) (b := .int .i64 (-1)) (c := .int .i64 (-1)) (d := .int .i64 (-1)) ?_ rfl rfl rfl rfl
    have hh := heap_alloc_new (w.alloc (.cells #[.int .i64 0, .int .i64 0, .int .i64 0, .int .i64 0] 55)) (.cells #[.int .i64 (-1), .int .i64 (-1), .int .i64 (-1), .int .i64 (-1)] 55)
    rw [show (w.alloc (.cells #[.int .i64 0, .int .i64 0, .int .i64 0, .int .i64 0] 55)).heap.size = w.heap.size + 1 by simp] at hh
    rw [hw1]; exact hh
  have HR1 : Hid (w1.heap[w.heap.size]? = some (.cells #[.int .i64 0, .int .i64 0, .int .i64 0, .int .i64 0] 55 (0, 0))) := by
    rw [hw1]; exact (Below.heap_alloc _ _ _ (by simp)).trans (heap_alloc_new _ _)
  clear hw1
  go_loopw [7] (fun j wr => ∃ k : Nat, k ≤ R.length ∧ j = .int .i64 k ∧ Hid (Four wr (w.heap.size + 1) (fun v => toldTo R s.regs s.vars i v k)) ∧ Hid (Below (w.heap.size + 1) w1 wr)) (fun j _ => R.length - (intOf j).toNat)
  case atStart => exact ⟨0, Nat.zero_le _, rfl, unhide HD1, Below.refl _ _⟩
  case round =>
    obtain ⟨k, hk, rfl, HD, HB⟩ := hrel
    have hBs := (unhide HB).size
    have HBr : Hid (Below w.heap.size w wr) := (unhide HB1).trans ((unhide HB).mono (by omega))
    have d39 := ((unhide HBr).cell (p := ⟨B, 39, none⟩) hB).trans c39
    have hDl : w.heap.size + 1 < wr.heap.size := (unhide HD).lt
    by_cases hlt : k < R.length
    case neg =>
      obtain rfl : k = R.length := by omega
      obtain ⟨x0, hx0⟩ : ∃ x, x = toldTo R s.regs s.vars i 0 R.length := ⟨_, rfl⟩
      obtain ⟨x1, hx1⟩ : ∃ x, x = toldTo R s.regs s.vars i 1 R.length := ⟨_, rfl⟩
      obtain ⟨x2, hx2⟩ : ∃ x, x = toldTo R s.regs s.vars i 2 R.length := ⟨_, rfl⟩
      obtain ⟨x3, hx3⟩ : ∃ x, x = toldTo R s.regs s.vars i 3 R.length := ⟨_, rfl⟩
      have t0 : wr.cell? ⟨w.heap.size + 1, 0, none⟩ = some (.int .i64 x0) := by rw [hx0]; exact (unhide HD).1 0 (by decide)
      have t1 : wr.cell? ⟨w.heap.size + 1, 1, none⟩ = some (.int .i64 x1) := by rw [hx1]; exact (unhide HD).1 1 (by decide)
      have t2 : wr.cell? ⟨w.heap.size + 1, 2, none⟩ = some (.int .i64 x2) := by rw [hx2]; exact (unhide HD).1 2 (by decide)
      have t3 : wr.cell? ⟨w.heap.size + 1, 3, none⟩ = some (.int .i64 x3) := by rw [hx3]; exact (unhide HD).1 3 (by decide)
      have HX := hide (And.intro hx0 (And.intro hx1 (And.intro hx2 hx3)))
      have hr := ((unhide HB).block w.heap.size (by omega)).trans (unhide HR1)
      have HRr := hide hr
      have n0 : wr.cell? ⟨w.heap.size, 0, none⟩ = some (.int .i64 0) := (cell_of_row wr _ 0 _ 55 (0, 0) hr).trans rfl
      have n1 : wr.cell? ⟨w.heap.size, 1, none⟩ = some (.int .i64 0) := (cell_of_row wr _ 1 _ 55 (0, 0) hr).trans rfl
      have n2 : wr.cell? ⟨w.heap.size, 2, none⟩ = some (.int .i64 0) := (cell_of_row wr _ 2 _ 55 (0, 0) hr).trans rfl
      have n3 : wr.cell? ⟨w.heap.size, 3, none⟩ = some (.int .i64 0) := (cell_of_row wr _ 3 _ 55 (0, 0) hr).trans rfl
      have nf : ∀ o, wr.frozen? ⟨w.heap.size, o, none⟩ = false := fun o => by simp [World.frozen?, hr]
      clear hx0 hx1 hx2 hx3 hr
      go_wp2_with fail
      refine bodyPost_ret (results_cell_row rfl _ _ w.heap.size 55 _ (0, 0) _ rfl (set4 (unhide HRr) _ _ _ _) Tryd.underlying55 rfl Tryd.size55) rfl ?_
      exact ⟨by rw [← (unhide HX).1, ← (unhide HX).2.1, ← (unhide HX).2.2.1, ← (unhide HX).2.2.2], below4 (unhide HBr) (Nat.le_refl _) _ _ _ _⟩
    obtain ⟨b, off, rfl, hb, hL⟩ : ∃ b off, ao = some ⟨b, off, none⟩ ∧ b < w.heap.size ∧ Lie w b off R := by
      rcases unhide HH with h | h
      · subst h; exact absurd hlt (by simp)
      · exact h
    obtain ⟨r, hr⟩ : ∃ r, r = rg R k := ⟨_, rfl⟩
    have hA := (hL k hlt).below (unhide HBr) hb
    have hfit := unhide HF k hlt
    rw [← hr] at hA hfit
    obtain ⟨c0, c1, c2, c3, c4⟩ := hA
    have HR := hide hr
    clear hr hL
    by_cases hcov : r.f ≤ (i : Int) ∧ (i : Int) < r.t
    case neg =>
      have HN : Hid (∀ v, toldTo R s.regs s.vars i v (k + 1) = toldTo R s.regs s.vars i v k) := fun v => toldTo_miss (fun h => hcov ⟨by have := h.2.1; rw [← unhide HR] at this; exact this, by have := h.2.2; rw [← unhide HR] at this; exact this⟩)
      rcases (show (i : Int) < r.f ∨ (r.f ≤ (i : Int) ∧ r.t ≤ (i : Int)) by omega) with h | ⟨h, h'⟩
      all_goals
        clear hcov hfit
        go_wp2_with fail
        go_roundw
        case rel => exact ⟨k + 1, by omega, by go_num, ((unhide HD).of_block (Below.heap_alloc _ _ _ hDl)).to (fun v _ => unhide HN v), (unhide HB).alloc (by omega) _⟩
        case measure => simp [intOf]; omega
    obtain ⟨g1, g2⟩ := hcov
    obtain ⟨v0, v3, ha⟩ := hfit
    obtain ⟨vn, hvn⟩ : ∃ vn : Nat, r.v = (vn : Int) := ⟨r.v.toNat, by omega⟩
    have KC := hide (fun (w : World) (h : StB w B s vo vs) => unhide KH r w h ha)
    obtain ⟨y, hy⟩ : ∃ y, y = heldE s.regs s.vars r := ⟨_, rfl⟩
    rw [← hy] at KC
    have HN : Hid (∀ v, v < 4 → toldTo R s.regs s.vars i v (k + 1) = if v = vn then y else toldTo R s.regs s.vars i v k) := fun v _ => by
      by_cases e : v = vn
      · rw [if_pos e, toldTo_hit (show Hits (rg R k) i v by rw [← unhide HR]; exact ⟨by rw [hvn, e], g1, g2⟩), ← unhide HR, hy]
      · rw [if_neg e, toldTo_miss (fun h => e (by have := h.1; rw [← unhide HR] at this; omega))]
    have hv4 : vn < 4 := by omega
    have cd := (unhide HD).1 vn hv4
    have fd := (unhide HD).2
    rw [hvn] at c0 KC
    have HY := hide hy
    clear hvn ha hy KH
    go_wp2_with fail
    obtain ⟨w5, hw5⟩ : ∃ w5, w5 = wr.alloc (.cells #[.int .i64 (vn : Int), .int .i64 r.f, .int .i64 r.t, .int .i64 r.k, .int .i64 r.a] 109) := ⟨_, rfl⟩
    rw [← hw5]
    have q : ∀ o, w5.cell? ⟨wr.heap.size, o, none⟩ = #[Value.int .i64 (vn : Int), .int .i64 r.f, .int .i64 r.t, .int .i64 r.k, .int .i64 r.a][o]? := fun o => by rw [hw5]; exact World.cell?_alloc_at (hn := rfl) ..
    have q0 : w5.cell? ⟨wr.heap.size, 0, none⟩ = some (.int .i64 (vn : Int)) := (q 0).trans rfl
    have q1 : w5.cell? ⟨wr.heap.size, 1, none⟩ = some (.int .i64 r.f) := (q 1).trans rfl
    have q2 : w5.cell? ⟨wr.heap.size, 2, none⟩ = some (.int .i64 r.t) := (q 2).trans rfl
    have q3 : w5.cell? ⟨wr.heap.size, 3, none⟩ = some (.int .i64 r.k) := (q 3).trans rfl
    have q4 : w5.cell? ⟨wr.heap.size, 4, none⟩ = some (.int .i64 r.a) := (q 4).trans rfl
    have HD5 : Hid (Four w5 (w.heap.size + 1) (fun v => toldTo R s.regs s.vars i v k)) := by rw [hw5]; exact (unhide HD).of_block (Below.heap_alloc _ _ _ hDl)
    have HB5 : Hid (Below (w.heap.size + 1) w1 w5) := by rw [hw5]; exact (unhide HB).alloc (by omega) _
    have HS5 : Hid (StB w5 B s vo vs) := by rw [hw5]; exact ((unhide HS).of_block ((unhide HBr).block B hB)).of_block (Below.heap_alloc _ _ _ (Nat.lt_of_lt_of_le hB (unhide HBr).size))
    have hz5 : wr.heap.size < w5.heap.size := by rw [hw5]; simp
    have cd5 := (unhide HD5).1 vn hv4
    have fd5 := (unhide HD5).2
    have hD5 : w.heap.size + 1 < w5.heap.size := by omega
    have hne : wr.heap.size ≠ w.heap.size + 1 := by omega
    have hk5 : ∀ (wq : World) (o : Nat) (z : Value), (wq.setCell ⟨w.heap.size + 1, vn, none⟩ z).cell? ⟨wr.heap.size, o, none⟩ = wq.cell? ⟨wr.heap.size, o, none⟩ := fun wq o z => World.cell?_setCell_other _ _ _ _ (fun e => by injection e with e1; omega)
    clear hw5 q c0 c1 c2 c3 c4 cd fd HD HB
    have v4 : (vn : Int) < 4 := by omega
    go_region_held3 (fun w' => w'.cell? ⟨wr.heap.size, 0, none⟩ = some (.int .i64 (vn : Int)) ∧ w'.cell? ⟨wr.heap.size, 1, none⟩ = some (.int .i64 r.f) ∧ w'.cell? ⟨wr.heap.size, 2, none⟩ = some (.int .i64 r.t) ∧ w'.cell? ⟨wr.heap.size, 3, none⟩ = some (.int .i64 r.k) ∧ w'.cell? ⟨wr.heap.size, 4, none⟩ = some (.int .i64 r.a)) (first | (simp [*]; done) | (refine ⟨?_, ?_, ?_, ?_, ?_⟩ <;> assumption))
      ((go_at_call 68; refine (unhide KC _ ?_).mono ?_; exact (unhide HS5).drew; rintro e w6 ⟨rfl, hb6⟩; have x0 := (hb6.cell (p := ⟨wr.heap.size, 0, none⟩) hz5).trans q0; have x1 := (hb6.cell (p := ⟨wr.heap.size, 1, none⟩) hz5).trans q1; have x2 := (hb6.cell (p := ⟨wr.heap.size, 2, none⟩) hz5).trans q2; have x3 := (hb6.cell (p := ⟨wr.heap.size, 3, none⟩) hz5).trans q3; have x4 := (hb6.cell (p := ⟨wr.heap.size, 4, none⟩) hz5).trans q4; have cd6 := (hb6.cell (p := ⟨w.heap.size + 1, vn, none⟩) hD5).trans cd5; have fd6 : w6.frozen? ⟨w.heap.size + 1, vn, none⟩ = false := (hb6.frozen (p := ⟨w.heap.size + 1, vn, none⟩) hD5).trans (fd5 vn); have HD6 := hide ((unhide HD5).of_block (hb6.block (w.heap.size + 1) hD5)); have HB6 := hide ((unhide HB5).drew.trans (hb6.mono (show w.heap.size + 1 ≤ w5.heap.size by omega))); clear hb6))
    go_wp2_with fail
    go_roundw
    case rel => exact ⟨k + 1, by omega, by go_num, (unhide HD6).set vn hv4 y (unhide HN), (unhide HB6).setCell (p := ⟨w.heap.size + 1, vn, none⟩) (Nat.le_refl _) _⟩
    case measure => simp [intOf]; omega
end Go.Proofs.YtoepcplbpochpabDoor

/-
  One step of the program's own unit's run: (*mach.run).step.
-/
namespace Go.Proofs.YtoepcplbpochpabDoor
open Go.RowKit

set_option maxRecDepth 100000 in
set_option maxHeartbeats 8000000 in
theorem machStep_any (B : Nat) (s : St) (vo vs : Value) (x : In4) (K n S : Int) (R : List Rg) (ao : Option Addr) (cap : Nat) (w : World) (h : Inv w B s vo vs) (hx : Right K n S x) (hp : x.op ≤ 11 ∨ 15 ≤ x.op) (hE : s.env = unitEnv R (some (.slice ao R.length cap))) (hH : Held w ao R) (hF : ∀ i, i < R.length → RgFit (rg R i)) (ht : isTab R = true) (hK : K ≤ 16) (hS : S ≤ 16)
    (hv : ∀ i, 0 ≤ s.regs i ∧ s.regs i ≤ 65535) (hu : ∀ i, 0 ≤ s.vars i ∧ s.vars i ≤ 65535) (hat : s.at_ ≤ 1000) (hst : s.steps ≤ 100000) (hol : s.outs.length ≤ 100000) (hsl : s.stops.length ≤ 100000) :
    Calls Tryd.prog 29 #[.pointer (some ⟨B, 0, none⟩), .agg #[.int .i64 x.op, .int .i64 x.d, .int .i64 x.a, .int .i64 x.b]] w (StepPost w B (stepSt x s)) := by
  have hB := h.1.lt
  have hlen : R.length ≤ 1000 := by have := isTab_len ht; omega
  have KD := hide (fun (s' : St) (vo' vs' : Value) (w' : World) (h' : Inv w' B s' vo' vs') (hr : ∀ i, 0 ≤ s'.regs i ∧ s'.regs i ≤ 65535) (ha : s'.at_ = s.at_) (hst' : s'.steps = s.steps) (ho : s'.outs = s.outs) => do_any B s' vo' vs' x K n S w' h' hx hK (fun i _ => hr i) (by rw [ha]; exact hat) (by rw [hst']; exact hst) (by rw [ho]; exact hol))
  have KA := hide (fun (w' : World) (h' : Inv w' B s vo vs) (hH' : Held w' ao R) => ask_any B s vo vs R ao cap s.at_ w' h'.1 hE hH' hF hlen)
  have HTL : Hid (∀ v, s.tell v = toldTo R s.regs s.vars s.at_ v R.length) := fun v => by unfold St.tell; rw [hE, told_eq ht]; rfl
  obtain ⟨w2, hw2, HI2, HK2, q0, q1, q2, q3, hz2, hf2⟩ := step_open x.op x.d x.a x.b h
  have HW := hide hw2
  have hB2 : B < w2.heap.size := (unhide HI2).1.lt
  have HBel : Hid (Below B w w2) := (unhide HK2).below (Nat.le_of_lt hB) (fun k hk e => by omega)
  have HI := hide h
  have HX := hide hx
  have HH2 : Hid (Held w2 ao R) := by rw [hw2]; exact hH.below ((Below.refl _ _).alloc (Nat.le_refl _) _)
  have hne : w.heap.size ≠ B := by omega
  have hk : ∀ (wq : World) (j o : Nat) (z : Value), (wq.setCell ⟨B, j, none⟩ z).cell? ⟨w.heap.size, o, none⟩ = wq.cell? ⟨w.heap.size, o, none⟩ := fun wq j o z => World.cell?_setCell_other _ _ _ _ (fun e => by injection e with e1; omega)
  have HV := hide hv
  have HU := hide hu
  have hnv : s.env.nv = 16 := by rw [hE]; rfl
  clear h hx hw2 hv hu hH hF hE ht
  have o0 : 0 ≤ x.op := (unhide HX).1
  have o1 : x.op ≤ 16 := (unhide HX).2.1
  have HN : Hid (some w.heap.size ≠ vo.ownBlock) := fun e => by have := (own_in (unhide HI).2.1 _ e.symm).2; omega
  obtain ⟨op, d, a, b⟩ := x
  simp only at *
  rcases (show op ≤ 10 ∨ op = 11 ∨ op = 15 ∨ op = 16 by omega) with ho | rfl | rfl | rfl
  · have HP0 := hide (pre_eq ⟨op, d, a, b⟩ s ho)
    have HBl := HBel
    have h11 : (op == 11) = false := by rw [beq_eq_false_iff_ne]; omega
    have h15 : (op == 15) = false := by rw [beq_eq_false_iff_ne]; omega
    have h16 : (op == 16) = false := by rw [beq_eq_false_iff_ne]; omega
    clear KA
    go_enter Tryd.func29, Tryd.ntmps29
    go_wp2_with fail
    rw [← unhide HW]
    go_wp2_with fail
    go_region_held3 (fun w' => w'.cell? ⟨w.heap.size, 0, none⟩ = some (.int .i64 op) ∧ w'.cell? ⟨w.heap.size, 1, none⟩ = some (.int .i64 d) ∧ w'.cell? ⟨w.heap.size, 2, none⟩ = some (.int .i64 a) ∧ w'.cell? ⟨w.heap.size, 3, none⟩ = some (.int .i64 b)) (first | (simp [*]; done) | assumption)
      ((go_at_call 45; refine (unhide KD s vo vs _ ?_ (unhide HV) rfl rfl rfl).mono ?_; exact (unhide HI2).drew; intro e w5 hD; have hbl := hD.2.2.block w.heap.size hz2 (fun h => h.elim hne (unhide HN)); have r0 := (World.cell?_of_block hbl).trans q0; have r1 := (World.cell?_of_block hbl).trans q1; have r2 := (World.cell?_of_block hbl).trans q2; have r3 := (World.cell?_of_block hbl).trans q3; have HP := hide (StepPost.of hD (unhide HI2).drew (unhide HBl).drew); obtain ⟨rfl, _, _⟩ := hD; clear hbl))
    go_wp2_with fail
    go_returns
    have hP := unhide HP
    unfold stepSt
    rw [unhide HP0]
    exact hP
  -- Stop
  · obtain ⟨v0, e0⟩ : ∃ v, s.tell 0 = v := ⟨_, rfl⟩
    obtain ⟨v1, e1⟩ : ∃ v, s.tell 1 = v := ⟨_, rfl⟩
    obtain ⟨v2, e2⟩ : ∃ v, s.tell 2 = v := ⟨_, rfl⟩
    obtain ⟨v3, e3⟩ : ∃ v, s.tell 3 = v := ⟨_, rfl⟩
    have KS := hide (fun w' (h : Inv w' B s vo vs) => see_any B s vo vs a v0 v1 v2 v3 w' h e0 e1 e2 e3 hsl)
    have KA' := hide (fun (w' : World) (h' : Inv w' B s vo vs) (hH' : Held w' ao R) => unhide KA w' h' hH')
    rw [← unhide HTL 0, ← unhide HTL 1, ← unhide HTL 2, ← unhide HTL 3, e0, e1, e2, e3] at KA'
    have c16 : w.cell? ⟨B, 16, none⟩ = some (.int .i64 (s.at_ : Int)) := (unhide HI).1.2.2.1
    have HNs : Hid (some w.heap.size ≠ vs.ownBlock) := fun e => by have := (own_in (unhide HI).2.2 _ e.symm).2; omega
    have HNb : Hid (∀ k, k < B → ¬ (k = B ∨ some k = vs.ownBlock)) := fun k hk e => e.elim (fun e => by omega) (fun e => by have := (own_in (unhide HI2).2.2 k e.symm).1; omega)
    have HNt : Hid (∀ g, w2.heap.size ≤ g → ¬ (g = B ∨ some g = vs.ownBlock)) := fun g hg e => e.elim (fun e => by omega) (fun e => by have := (own_in (unhide HI2).2.2 g e.symm).2; omega)
    clear e0 e1 e2 e3 KA HTL
    go_enter Tryd.func29, Tryd.ntmps29
    go_wp2_with fail
    rw [← unhide HW]
    refine (unhide KA' w2 (unhide HI2) (unhide HH2)).mono ?_
    rintro e w3 ⟨rfl, hb3⟩
    have HI3 : Hid (Inv w3 B s vo vs) := (unhide HI2).keep (Keep.of_below hb3 (fun _ => False))
    have HB3 : Hid (Below B w w3) := (unhide HBel).trans (hb3.mono (Nat.le_of_lt hB2))
    have t0 := (hb3.cell (p := ⟨w.heap.size, 0, none⟩) hz2).trans q0
    have t1 := (hb3.cell (p := ⟨w.heap.size, 1, none⟩) hz2).trans q1
    have t2 := (hb3.cell (p := ⟨w.heap.size, 2, none⟩) hz2).trans q2
    have t3 := (hb3.cell (p := ⟨w.heap.size, 3, none⟩) hz2).trans q3
    have hs3 := hb3.size
    clear hb3 q0 q1 q2 q3 c16 KA'
    go_wp2_with fail
    obtain ⟨w4, hw4⟩ : ∃ w4, w4 = w3.alloc (.cells #[.int .i64 v0, .int .i64 v1, .int .i64 v2, .int .i64 v3] 55) := ⟨_, rfl⟩
    rw [← hw4]
    have hb4 : Below w3.heap.size w3 w4 := by rw [hw4]; exact (Below.refl _ _).alloc (Nat.le_refl _) _
    have y : ∀ i, w4.cell? ⟨w3.heap.size, i, none⟩ = #[Value.int .i64 v0, .int .i64 v1, .int .i64 v2, .int .i64 v3][i]? := fun i => by rw [hw4]; exact World.cell?_alloc_at (hn := rfl) ..
    have y0 : w4.cell? ⟨w3.heap.size, 0, none⟩ = some (.int .i64 v0) := (y 0).trans rfl
    have y1 : w4.cell? ⟨w3.heap.size, 1, none⟩ = some (.int .i64 v1) := (y 1).trans rfl
    have y2 : w4.cell? ⟨w3.heap.size, 2, none⟩ = some (.int .i64 v2) := (y 2).trans rfl
    have y3 : w4.cell? ⟨w3.heap.size, 3, none⟩ = some (.int .i64 v3) := (y 3).trans rfl
    have HI4 : Hid (Inv w4 B s vo vs) := (unhide HI3).keep (Keep.of_below hb4 (fun _ => False))
    have HB4 : Hid (Below B w w4) := (unhide HB3).trans (hb4.mono (by omega))
    have u0 := (hb4.cell (p := ⟨w.heap.size, 0, none⟩) (show w.heap.size < w3.heap.size by omega)).trans t0
    have u1 := (hb4.cell (p := ⟨w.heap.size, 1, none⟩) (show w.heap.size < w3.heap.size by omega)).trans t1
    have u2 := (hb4.cell (p := ⟨w.heap.size, 2, none⟩) (show w.heap.size < w3.heap.size by omega)).trans t2
    have u3 := (hb4.cell (p := ⟨w.heap.size, 3, none⟩) (show w.heap.size < w3.heap.size by omega)).trans t3
    have hz4 : w3.heap.size < w4.heap.size := by rw [hw4]; simp
    have hX4 : w.heap.size < w4.heap.size := by omega
    have hB4 : B ≤ w4.heap.size := by omega
    clear hw4 hb4 y t0 t1 t2 t3 HI3 HB3
    go_region_held3 (fun w' => w'.cell? ⟨w.heap.size, 2, none⟩ = some (.int .i64 a) ∧ w'.cell? ⟨w3.heap.size, 0, none⟩ = some (.int .i64 v0) ∧ w'.cell? ⟨w3.heap.size, 1, none⟩ = some (.int .i64 v1) ∧ w'.cell? ⟨w3.heap.size, 2, none⟩ = some (.int .i64 v2) ∧ w'.cell? ⟨w3.heap.size, 3, none⟩ = some (.int .i64 v3)) (first | (simp [*]; done) | (refine ⟨?_, ?_, ?_, ?_, ?_⟩ <;> assumption))
      ((go_at_call 44; refine (unhide KS _ ?_).mono ?_; exact (unhide HI4).drew; intro e w5 hD; obtain ⟨rfl, ⟨vs5, hI5⟩, hK5⟩ := hD; have hbl := hK5.block w.heap.size hX4 (fun h => h.elim hne (unhide HNs)); have p0 := (World.cell?_of_block hbl).trans u0; have p1 := (World.cell?_of_block hbl).trans u1; have p2 := (World.cell?_of_block hbl).trans u2; have p3 := (World.cell?_of_block hbl).trans u3; have hbt := hK5.block w3.heap.size hz4 (unhide HNt w3.heap.size hs3); have z0 := (World.cell?_of_block hbt).trans y0; have z1 := (World.cell?_of_block hbt).trans y1; have z2 := (World.cell?_of_block hbt).trans y2; have z3 := (World.cell?_of_block hbt).trans y3; have HI5 := hide hI5; have HK5 := hide hK5; clear hbl hbt hI5 hK5))
    have HBl : Hid (Below B w w5) := (unhide HB4).drew.trans ((unhide HK5).below hB4 (unhide HNb))
    have hz5 : w.heap.size < w5.heap.size := Nat.lt_of_lt_of_le hX4 (unhide HK5).size
    clear HK5 u0 u1 u2 u3 y0 y1 y2 y3 z0 z1 z2 z3 HI4 HB4
    go_wp2_with fail
    go_region_held3 (fun w' => w'.cell? ⟨w.heap.size, 0, none⟩ = some (.int .i64 11) ∧ w'.cell? ⟨w.heap.size, 1, none⟩ = some (.int .i64 d) ∧ w'.cell? ⟨w.heap.size, 2, none⟩ = some (.int .i64 a) ∧ w'.cell? ⟨w.heap.size, 3, none⟩ = some (.int .i64 b)) (first | (simp [*]; done) | assumption)
      ((go_at_call 45; refine (unhide KD (s.see a) vo vs5 _ ?_ (unhide HV) rfl rfl rfl).mono ?_; exact (unhide HI5).drew; intro e w6 hD; have hbl := hD.2.2.block w.heap.size hz5 (fun h => h.elim hne (unhide HN)); have r0 := (World.cell?_of_block hbl).trans p0; have r1 := (World.cell?_of_block hbl).trans p1; have r2 := (World.cell?_of_block hbl).trans p2; have r3 := (World.cell?_of_block hbl).trans p3; have HP := hide (StepPost.of hD (unhide HI5).drew (unhide HBl).drew); obtain ⟨rfl, _, _⟩ := hD; clear hbl))
    go_wp2_with fail
    go_returns
    have hP := unhide HP
    exact hP
  -- Load
  · obtain ⟨⟨d0, d1⟩, a0, a1⟩ := (unhide HX).2.2.2.2.2.2.2.2.2.2.1 rfl
    simp only at d0 d1 a0 a1
    obtain ⟨dn, rfl⟩ : ∃ dn : Nat, d = dn := ⟨d.toNat, by omega⟩
    obtain ⟨an, rfl⟩ : ∃ an : Nat, a = an := ⟨a.toNat, by omega⟩
    have d2 : (dn : Int) < 16 := by omega
    have a2 : (an : Int) < 16 := by omega
    have cd : w2.cell? ⟨B, dn, none⟩ = some (.int .i64 (s.regs dn)) := (unhide HI2).1.1 dn (by omega)
    obtain ⟨y, hy⟩ : ∃ y, y = s.vars an := ⟨_, rfl⟩
    have ca : w2.cell? ⟨B, 23 + an, none⟩ = some (.int .i64 y) := by rw [hy]; exact (unhide HI2).1.2.1 an (by omega)
    have HY := hide hy
    have HVy : Hid (∀ i, 0 ≤ (s.reg dn y).regs i ∧ (s.reg dn y).regs i ≤ 65535) := upd_ok _ _ _ (unhide HV) (by rw [hy]; exact unhide HU an)
    have hkc : ∀ (wq : World) (z : Value), (wq.setCell ⟨B, dn, none⟩ z).cell? ⟨B, 23 + an, none⟩ = wq.cell? ⟨B, 23 + an, none⟩ := fun wq z => World.cell?_setCell_other _ _ _ _ (fun e => by injection e with e1 e2; omega)
    clear hy KA
    go_enter Tryd.func29, Tryd.ntmps29
    go_wp2_with fail
    rw [← unhide HW]
    go_region_held3 (fun w' => w'.cell? ⟨w.heap.size, 1, none⟩ = some (.int .i64 (dn : Int)) ∧ w'.cell? ⟨w.heap.size, 2, none⟩ = some (.int .i64 (an : Int)) ∧ w'.cell? ⟨B, 23 + an, none⟩ = some (.int .i64 y)) (simp [*]) (fail)
    obtain ⟨w4, hw4⟩ : ∃ w4, w4 = (w2.setCell ⟨B, dn, none⟩ (.int .i64 y)).drew := ⟨_, rfl⟩
    rw [← hw4]
    have HI4 : Hid (Inv w4 B (s.reg dn y) vo vs) := by
      rw [hw4]; exact ((unhide HI2).turn ((unhide HI2).1.set_reg dn (by omega) _) (keep_set (Keep.refl _ _) _ _) rfl rfl).drew
    have HBl : Hid (Below B w w4) := by rw [hw4]; exact ((unhide HBel).setCell (p := ⟨B, dn, none⟩) (Nat.le_refl _) _).drew
    have hz4 : w.heap.size < w4.heap.size := by rw [hw4]; simp; exact hz2
    have p0 : w4.cell? ⟨w.heap.size, 0, none⟩ = some (.int .i64 15) := by rw [hw4]; exact (hk _ _ _ _).trans q0
    have p1 : w4.cell? ⟨w.heap.size, 1, none⟩ = some (.int .i64 (dn : Int)) := by rw [hw4]; exact (hk _ _ _ _).trans q1
    have p2 : w4.cell? ⟨w.heap.size, 2, none⟩ = some (.int .i64 (an : Int)) := by rw [hw4]; exact (hk _ _ _ _).trans q2
    have p3 : w4.cell? ⟨w.heap.size, 3, none⟩ = some (.int .i64 b) := by rw [hw4]; exact (hk _ _ _ _).trans q3
    clear hw4 q0 q1 q2 q3 cd ca
    go_wp2_with fail
    go_region_held3 (fun w' => w'.cell? ⟨w.heap.size, 0, none⟩ = some (.int .i64 15) ∧ w'.cell? ⟨w.heap.size, 1, none⟩ = some (.int .i64 (dn : Int)) ∧ w'.cell? ⟨w.heap.size, 2, none⟩ = some (.int .i64 (an : Int)) ∧ w'.cell? ⟨w.heap.size, 3, none⟩ = some (.int .i64 b)) (first | (simp [*]; done) | assumption)
      ((go_at_call 45; refine (unhide KD (s.reg dn y) vo vs _ ?_ (unhide HVy) rfl rfl rfl).mono ?_; exact (unhide HI4).drew; intro e w5 hD; have hbl := hD.2.2.block w.heap.size hz4 (fun h => h.elim hne (unhide HN)); have r0 := (World.cell?_of_block hbl).trans p0; have r1 := (World.cell?_of_block hbl).trans p1; have r2 := (World.cell?_of_block hbl).trans p2; have r3 := (World.cell?_of_block hbl).trans p3; have HP := hide (StepPost.of hD (unhide HI4).drew (unhide HBl).drew); obtain ⟨rfl, _, _⟩ := hD; clear hbl))
    go_wp2_with fail
    go_returns
    have hP := unhide HP
    rw [unhide HY] at hP
    exact hP
  -- Store
  · obtain ⟨⟨d0, d1⟩, a0, a1⟩ := (unhide HX).2.2.2.2.2.2.2.2.2.2.2 rfl
    simp only at d0 d1 a0 a1
    obtain ⟨dn, rfl⟩ : ∃ dn : Nat, d = dn := ⟨d.toNat, by omega⟩
    obtain ⟨an, rfl⟩ : ∃ an : Nat, a = an := ⟨a.toNat, by omega⟩
    have d2 : (dn : Int) < 16 := by omega
    have a2 : (an : Int) < 16 := by omega
    have cd : w2.cell? ⟨B, 23 + dn, none⟩ = some (.int .i64 (s.vars dn)) := (unhide HI2).1.2.1 dn (by omega)
    obtain ⟨y, hy⟩ : ∃ y, y = s.regs an := ⟨_, rfl⟩
    have ca : w2.cell? ⟨B, an, none⟩ = some (.int .i64 y) := by rw [hy]; exact (unhide HI2).1.1 an (by omega)
    have HY := hide hy
    have hkc : ∀ (wq : World) (z : Value), (wq.setCell ⟨B, 23 + dn, none⟩ z).cell? ⟨B, an, none⟩ = wq.cell? ⟨B, an, none⟩ := fun wq z => World.cell?_setCell_other _ _ _ _ (fun e => by injection e with e1 e2; omega)
    clear hy KA
    go_enter Tryd.func29, Tryd.ntmps29
    go_wp2_with fail
    rw [← unhide HW]
    go_region_held3 (fun w' => w'.cell? ⟨w.heap.size, 1, none⟩ = some (.int .i64 (dn : Int)) ∧ w'.cell? ⟨w.heap.size, 2, none⟩ = some (.int .i64 (an : Int)) ∧ w'.cell? ⟨B, an, none⟩ = some (.int .i64 y)) (simp [*]) (fail)
    obtain ⟨w4, hw4⟩ : ∃ w4, w4 = (w2.setCell ⟨B, 23 + dn, none⟩ (.int .i64 y)).drew := ⟨_, rfl⟩
    rw [← hw4]
    have HI4 : Hid (Inv w4 B (s.var dn y) vo vs) := by
      rw [hw4]; exact ((unhide HI2).turn ((unhide HI2).1.set_var dn (by omega) _) (keep_set (Keep.refl _ _) _ _) rfl rfl).drew
    have HBl : Hid (Below B w w4) := by rw [hw4]; exact ((unhide HBel).setCell (p := ⟨B, 23 + dn, none⟩) (Nat.le_refl _) _).drew
    have hz4 : w.heap.size < w4.heap.size := by rw [hw4]; simp; exact hz2
    have p0 : w4.cell? ⟨w.heap.size, 0, none⟩ = some (.int .i64 16) := by rw [hw4]; exact (hk _ _ _ _).trans q0
    have p1 : w4.cell? ⟨w.heap.size, 1, none⟩ = some (.int .i64 (dn : Int)) := by rw [hw4]; exact (hk _ _ _ _).trans q1
    have p2 : w4.cell? ⟨w.heap.size, 2, none⟩ = some (.int .i64 (an : Int)) := by rw [hw4]; exact (hk _ _ _ _).trans q2
    have p3 : w4.cell? ⟨w.heap.size, 3, none⟩ = some (.int .i64 b) := by rw [hw4]; exact (hk _ _ _ _).trans q3
    clear hw4 q0 q1 q2 q3 cd ca
    go_wp2_with fail
    go_region_held3 (fun w' => w'.cell? ⟨w.heap.size, 0, none⟩ = some (.int .i64 16) ∧ w'.cell? ⟨w.heap.size, 1, none⟩ = some (.int .i64 (dn : Int)) ∧ w'.cell? ⟨w.heap.size, 2, none⟩ = some (.int .i64 (an : Int)) ∧ w'.cell? ⟨w.heap.size, 3, none⟩ = some (.int .i64 b)) (first | (simp [*]; done) | assumption)
      ((go_at_call 45; refine (unhide KD (s.var dn y) vo vs _ ?_ (unhide HV) rfl rfl rfl).mono ?_; exact (unhide HI4).drew; intro e w5 hD; have hbl := hD.2.2.block w.heap.size hz4 (fun h => h.elim hne (unhide HN)); have r0 := (World.cell?_of_block hbl).trans p0; have r1 := (World.cell?_of_block hbl).trans p1; have r2 := (World.cell?_of_block hbl).trans p2; have r3 := (World.cell?_of_block hbl).trans p3; have HP := hide (StepPost.of hD (unhide HI4).drew (unhide HBl).drew); obtain ⟨rfl, _, _⟩ := hD; clear hbl))
    go_wp2_with fail
    go_returns
    have hP := unhide HP
    rw [unhide HY] at hP
    exact hP
end Go.Proofs.YtoepcplbpochpabDoor

/-
  How the program's own run of a unit begins: mach.begin.
-/
namespace Go.Proofs.YtoepcplbpochpabDoor
open Go.RowKit

theorem Tryd.size74 : (Tryd.prog.info? 74).map (·.size) = some 40 := by kernel_rfl
def b81 (tv : Value) : Array Value := #[.int .i64 0, .int .i64 0, .int .i64 0, .int .i64 0, .int .i64 0, .int .i64 0, .int .i64 0, .int .i64 0, .int .i64 0, .int .i64 0, .int .i64 0, .int .i64 0, .int .i64 0, .int .i64 0, .int .i64 0, .int .i64 0, .int .i64 0, .bool true, .int .i64 2, .int .i64 0, .int .i64 0, .slice none 0 0, .slice none 0 0, .int .i64 0, .int .i64 0, .int .i64 0, .int .i64 0, .int .i64 0, .int .i64 0, .int .i64 0, .int .i64 0, .int .i64 0, .int .i64 0, .int .i64 0, .int .i64 0, .int .i64 0, .int .i64 0, .int .i64 0, .int .i64 0, tv]

/-- The cells of a unit's run. -/
def AggU (cs : Array Value) (s : St) (vo vs tv : Value) : Prop :=
  cs.size = 40 ∧ (∀ i, i < 16 → cs[i]? = some (.int .i64 (s.regs i))) ∧ (∀ i, i < 16 → cs[23 + i]? = some (.int .i64 (s.vars i))) ∧
  cs[16]? = some (.int .i64 (s.at_ : Int)) ∧ cs[17]? = some (.bool s.on) ∧ cs[18]? = some (.int .i64 s.kind) ∧ cs[19]? = some (.int .i64 s.val) ∧ cs[20]? = some (.int .i64 (s.steps : Int)) ∧ cs[21]? = some vo ∧ cs[22]? = some vs ∧ cs[39]? = some tv
theorem AggU.stb {w : World} {B : Nat} {cs : Array Value} {t : TypeId} {s : St} {vo vs tv : Value} {R : List Rg} (h : AggU cs s vo vs tv) (hE : s.env = unitEnv R (some tv)) (hg : w.heap[B]? = some (.cells cs t (0, 0))) : StB w B s vo vs := by
  have c : ∀ o, w.cell? ⟨B, o, none⟩ = cs[o]? := fun o => cell_of_row w B o cs t (0, 0) hg
  obtain ⟨hn, h0, h1, h2, h3, h4, h5, h6, h7, h8, h9⟩ := h
  refine ⟨fun i hi => (c _).trans (h0 i hi), fun i hi => (c _).trans (h1 i (by rw [hE] at hi; exact hi)), (c _).trans h2, (c _).trans h3, (c _).trans h4, (c _).trans h5, (c _).trans h6, (c _).trans h7, (c _).trans h8, fun o => by simp [World.frozen?, hg], fun o ho => ?_⟩
  rw [hE] at ho ⊢
  have ho' : 39 ≤ o := ho
  show _ = if o = 39 then some tv else none
  rw [c o]
  by_cases e : o = 39
  · rw [if_pos e, e]; exact h9
  · rw [if_neg e, Array.getElem?_eq_none (by rw [hn]; omega)]
theorem AggU.of_stb {w : World} {B : Nat} {cs : Array Value} {t : TypeId} {s : St} {vo vs tv : Value} {R : List Rg} (h : StB w B s vo vs) (hE : s.env = unitEnv R (some tv)) (hg : w.heap[B]? = some (.cells cs t (0, 0))) (hn : cs.size = 40) : AggU cs s vo vs tv := by
  have c : ∀ o, cs[o]? = w.cell? ⟨B, o, none⟩ := fun o => (cell_of_row w B o cs t (0, 0) hg).symm
  obtain ⟨h0, h1, h2, h3, h4, h5, h6, h7, h8, _, hx⟩ := h
  refine ⟨hn, fun i hi => (c _).trans (h0 i hi), fun i hi => (c _).trans (h1 i (by rw [hE]; exact hi)), (c _).trans h2, (c _).trans h3, (c _).trans h4, (c _).trans h5, (c _).trans h6, (c _).trans h7, (c _).trans h8, (c _).trans ?_⟩
  have := hx 39 (by rw [hE]; exact Nat.le_refl _)
  rw [hE] at this
  exact this
theorem AggU.plain {cs : Array Value} {s : St} {ao : Option Addr} {n cap : Nat} (h : AggU cs s (.slice none 0 0) (.slice none 0 0) (.slice ao n cap)) : cs.all (·.oneCell') = true := by
  obtain ⟨hn, h0, h1, h2, h3, h4, h5, h6, h7, h8, h9⟩ := h
  rw [Array.all_eq_true]
  intro i hi
  have key : ∀ v, cs[i]? = some v → v.oneCell' = true → cs[i].oneCell' = true := fun v hv h1 => by
    have e : cs[i]? = some cs[i] := Array.getElem?_eq_getElem hi
    rw [e] at hv; injection hv with hv; rw [hv]; exact h1
  rcases (show i < 16 ∨ i = 16 ∨ i = 17 ∨ i = 18 ∨ i = 19 ∨ i = 20 ∨ i = 21 ∨ i = 22 ∨ i = 39 ∨ (23 ≤ i ∧ i < 39) by omega) with h | rfl | rfl | rfl | rfl | rfl | rfl | rfl | rfl | h
  · exact key _ (h0 i h) rfl
  · exact key _ h2 rfl
  · exact key _ h3 rfl
  · exact key _ h4 rfl
  · exact key _ h5 rfl
  · exact key _ h6 rfl
  · exact key _ h7 rfl
  · exact key _ h8 rfl
  · exact key _ h9 rfl
  · have := h1 (i - 23) (by omega)
    rw [show 23 + (i - 23) = i by omega] at this
    exact key _ this rfl

/-- A unit's run of which the first k args are laid. -/
def begU (R : List Rg) (tv : Option Value) (xs : List Int) (k : Nat) : St := ⟨0, fun _ => 0, fun i => if i < k then nth xs i else 0, true, 2, 0, 0, [], [], unitEnv R tv⟩
theorem begU_var (R : List Rg) (tv : Option Value) (xs : List Int) (k : Nat) : (begU R tv xs k).var k (nth xs k) = begU R tv xs (k + 1) := by
  unfold St.var begU
  congr 1
  funext i
  unfold upd
  by_cases h : i = k
  · rw [if_pos h, if_pos (by omega), h]
  · rw [if_neg h]
    show (if i < k then _ else _) = _
    by_cases h2 : i < k
    · rw [if_pos h2, if_pos (by omega)]
    · rw [if_neg h2, if_neg (by omega)]
theorem begU_end (R : List Rg) (tv : Option Value) (xs : List Int) : begU R tv xs xs.length = stU R tv xs := by
  unfold begU stU
  congr 1
  funext i
  by_cases h : i < xs.length
  · rw [if_pos h]
  · rw [if_neg h, nth_past xs (by omega)]
theorem agg_b81 (R : List Rg) (tv : Value) (xs : List Int) : AggU (b81 tv) (begU R (some tv) xs 0) (.slice none 0 0) (.slice none 0 0) tv := by
  refine ⟨rfl, fun i hi => ?_, fun i hi => ?_, rfl, rfl, rfl, rfl, rfl, rfl, rfl, rfl⟩
  all_goals rcases (show i = 0 ∨ i = 1 ∨ i = 2 ∨ i = 3 ∨ i = 4 ∨ i = 5 ∨ i = 6 ∨ i = 7 ∨ i = 8 ∨ i = 9 ∨ i = 10 ∨ i = 11 ∨ i = 12 ∨ i = 13 ∨ i = 14 ∨ i = 15 by omega) with rfl | rfl | rfl | rfl | rfl | rfl | rfl | rfl | rfl | rfl | rfl | rfl | rfl | rfl | rfl | rfl <;> rfl

set_option maxRecDepth 100000 in
set_option maxHeartbeats 4000000 in
theorem machBegin_any (R : List Rg) (at_ : Option Addr) (ct : Nat) (xs : List Int) (ao : Option Addr) (cap : Nat) (w : World) (hH : HeldI w ao xs) (hl : xs.length ≤ 4) :
    Calls Tryd.prog 28 #[.slice ao xs.length cap, .slice at_ R.length ct] w fun e w' => ∃ cs, e = .returned (.agg cs) ∧ AggU cs (stU R (some (.slice at_ R.length ct)) xs) (.slice none 0 0) (.slice none 0 0) (.slice at_ R.length ct) ∧ Below w.heap.size w w' := by
  obtain ⟨n, hn⟩ : ∃ n, n = R.length := ⟨_, rfl⟩
  rw [← hn]
  have HN := hide hn
  have KB := hide codeBegin_any
  have HH := hide hH
  unfold b48 at KB
  clear hH hn
  go_enter Tryd.func28, Tryd.ntmps28
  go_wp2_with fail
  obtain ⟨w1, hw1⟩ : ∃ w1, w1 = w.alloc (.cells #[.int .i64 0, .int .i64 0, .int .i64 0, .int .i64 0, .int .i64 0, .int .i64 0, .int .i64 0, .int .i64 0, .int .i64 0, .int .i64 0, .int .i64 0, .int .i64 0, .int .i64 0, .int .i64 0, .int .i64 0, .int .i64 0, .int .i64 0, .bool false, .int .i64 0, .int .i64 0, .int .i64 0, .slice none 0 0, .slice none 0 0, .int .i64 0, .int .i64 0, .int .i64 0, .int .i64 0, .int .i64 0, .int .i64 0, .int .i64 0, .int .i64 0, .int .i64 0, .int .i64 0, .int .i64 0, .int .i64 0, .int .i64 0, .int .i64 0, .int .i64 0, .int .i64 0, .slice none 0 0] 74) := ⟨_, rfl⟩
  rw [← hw1]
  have HG1 : Hid (∃ cs, w1.heap[w.heap.size]? = some (.cells cs 74 (0, 0)) ∧ cs.size = 40) := by rw [hw1]; exact ⟨_, heap_alloc_new _ _, rfl⟩
  have hB1 : Below w.heap.size w w1 := by rw [hw1]; exact (Below.refl _ _).alloc (Nat.le_refl _) _
  have hz1 : w.heap.size < w1.heap.size := by rw [hw1]; simp
  clear hw1
  refine (unhide KB w1).mono ?_
  rintro e w2 ⟨rfl, hb2⟩
  have hz2 : w.heap.size < w2.heap.size := Nat.lt_of_lt_of_le hz1 hb2.size
  have HG2 : Hid (∃ cs, w2.heap[w.heap.size]? = some (.cells cs 74 (0, 0)) ∧ cs.size = 40) := by
    obtain ⟨cs, h1, h2⟩ := unhide HG1
    exact ⟨cs, (hb2.block w.heap.size hz1).trans h1, h2⟩
  have HB2 : Hid (Below w.heap.size w w2) := hB1.trans (hb2.mono (Nat.le_of_lt hz1))
  clear hb2 hB1 HG1 hz1
  go_wp2_with (refine wpList_store_row ?h1 74 ?h2 ?h3 ?h4 w2.heap.size ?h5 ?h6 ?h7 ?h8 ?h9 ?h10 ?h11 ?h12 ?h13 ?h14; case h4 => rfl)
  case h1 => rfl
  case h6 => rfl
  case h7 => rfl
  case h10 => exact heap_alloc_new _ _
  case h11 => exact Tryd.size74
  case h12 => rfl
  case h13 => kernel_rfl
  rw [World.setRow_alloc_new]
  obtain ⟨w3, hw3⟩ : ∃ w3, w3 = w2.alloc (.cells #[.int .i64 0, .int .i64 0, .int .i64 0, .int .i64 0, .int .i64 0, .int .i64 0, .int .i64 0, .int .i64 0, .int .i64 0, .int .i64 0, .int .i64 0, .int .i64 0, .int .i64 0, .int .i64 0, .int .i64 0, .int .i64 0, .int .i64 0, .bool true, .int .i64 2, .int .i64 0, .int .i64 0, .slice none 0 0, .slice none 0 0, .int .i64 0, .int .i64 0, .int .i64 0, .int .i64 0, .int .i64 0, .int .i64 0, .int .i64 0, .int .i64 0, .int .i64 0, .int .i64 0, .int .i64 0, .int .i64 0, .int .i64 0, .int .i64 0, .int .i64 0, .int .i64 0, .slice at_ n ct] 74) := ⟨_, rfl⟩
  rw [← hw3]
  have hg3 : w3.heap[w2.heap.size]? = some (.cells (b81 (.slice at_ n ct)) 74 (0, 0)) := by rw [hw3]; exact heap_alloc_new _ _
  have HS3 : Hid (StB w3 w2.heap.size (begU R (some (.slice at_ n ct)) xs 0) (.slice none 0 0) (.slice none 0 0)) := (agg_b81 R (.slice at_ n ct) xs).stb (R := R) rfl hg3
  have HG3 : Hid (∃ cs, w3.heap[w2.heap.size]? = some (.cells cs 74 (0, 0)) ∧ cs.size = 40) := ⟨_, hg3, rfl⟩
  have HR3 : Hid (∃ cs, w3.heap[w.heap.size]? = some (.cells cs 74 (0, 0)) ∧ cs.size = 40) := by
    obtain ⟨cs, h1, h2⟩ := unhide HG2
    exact ⟨cs, by rw [hw3]; exact (Below.heap_alloc _ _ _ hz2).trans h1, h2⟩
  have HB3 : Hid (Below w.heap.size w w3) := by rw [hw3]; exact (unhide HB2).alloc (Nat.le_of_lt hz2) _
  have hz3 : w2.heap.size < w3.heap.size := by rw [hw3]; simp
  clear hw3 hg3 HG2 HB2
  go_wp2_with fail
  go_loopw [6] (fun i wr => ∃ k : Nat, k ≤ xs.length ∧ i = .int .i64 k ∧ Hid (StB wr w2.heap.size (begU R (some (.slice at_ n ct)) xs k) (.slice none 0 0) (.slice none 0 0)) ∧ Hid (∃ cs, wr.heap[w2.heap.size]? = some (.cells cs 74 (0, 0)) ∧ cs.size = 40) ∧ Hid (Below w2.heap.size w3 wr)) (fun i _ => xs.length - (intOf i).toNat)
  case atStart => exact ⟨0, Nat.zero_le _, rfl, unhide HS3, unhide HG3, Below.refl _ _⟩
  case round =>
    obtain ⟨k, hk, rfl, HS, HG, HB⟩ := hrel
    by_cases hlt : k < xs.length
    · obtain ⟨b, off, rfl, hb, hc⟩ : ∃ b off, ao = some ⟨b, off, none⟩ ∧ b < w.heap.size ∧ ∀ i, i < xs.length → w.cell? ⟨b, off + i, none⟩ = some (.int .i64 (nth xs i)) := by
        rcases unhide HH with h | h
        · subst h; exact absurd hlt (by simp)
        · exact h
      have c : wr.cell? ⟨b, off + k, none⟩ = some (.int .i64 (nth xs k)) := ((unhide HB).cell (p := ⟨b, off + k, none⟩) (show b < w2.heap.size by omega)).trans (((unhide HB3).cell (p := ⟨b, off + k, none⟩) hb).trans (hc k hlt))
      have ck : wr.cell? ⟨w2.heap.size, 23 + k, none⟩ = some (.int .i64 ((begU R (some (.slice at_ n ct)) xs k).vars k)) := (unhide HS).2.1 k (show k < 16 by omega)
      have hf : ∀ o, wr.frozen? ⟨w2.heap.size, o, none⟩ = false := (unhide HS).2.2.2.2.2.2.2.2.2.1
      obtain ⟨y, hy⟩ : ∃ y, y = nth xs k := ⟨_, rfl⟩
      rw [← hy] at c
      have HY := hide hy
      have k16 : (k : Int) < 16 := by omega
      clear hc hy HS3 HG3
      go_wp2
      go_roundw
      case rel =>
        refine ⟨k + 1, by omega, by go_num, ?_, ?_, ((unhide HB).setCell (p := ⟨w2.heap.size, 23 + k, none⟩) (Nat.le_refl _) _)⟩
        · have := (unhide HS).set_var k (show k < 16 by omega) (nth xs k)
          rw [begU_var, ← unhide HY] at this
          exact this
        · obtain ⟨cs, h1, h2⟩ := unhide HG
          exact ⟨_, heap_setCell_same wr _ (23 + k) cs 74 _ h1, by rw [Array.size_setIfInBounds]; exact h2⟩
      case measure => simp [intOf]; omega
    · obtain rfl : k = xs.length := by omega
      obtain ⟨cs, hcs, hcn⟩ := unhide HG
      obtain ⟨zs, hzs, hzn⟩ := unhide HR3
      have hst := unhide HS
      rw [begU_end] at hst
      have HA := hide (AggU.of_stb (R := R) hst rfl hcs hcn)
      have HC := hide hcs
      have HZ := hide ((unhide HB).block w.heap.size hz2 |>.trans hzs)
      have HCN := hide hcn
      have HZN := hide hzn
      clear hcs hzs hcn hzn hst
      iterate 60 (first | (refine wpList_load_row rfl 74 _ rfl w2.heap.size rfl 74 cs (0, 0) _ (unhide HC) Tryd.underlying74 rfl (by rw [unhide HCN]; exact Tryd.size74) ?_; refine wpList_store_row rfl 74 _ _ rfl w.heap.size cs rfl rfl 74 zs (unhide HZ) (by rw [unhide HCN]; exact Tryd.size74) (by rw [unhide HZN, unhide HCN]) (unhide HA).plain ?_; clear HC) | go_values | go_skip | go_guarded | go_step | skip)
      go_wp2_with fail
      refine bodyPost_ret (results_cell_row rfl _ _ w.heap.size 74 cs (0, 0) _ rfl (setRow_heap wr w.heap.size zs _ 74 _ (unhide HZ)) Tryd.underlying74 rfl (by rw [unhide HCN]; exact Tryd.size74)) rfl ?_
      exact ⟨cs, rfl, unhide HA, below_setRow ((unhide HB3).trans ((unhide HB).mono (Nat.le_of_lt hz2))) (Nat.le_refl _) cs⟩
end Go.Proofs.YtoepcplbpochpabDoor
