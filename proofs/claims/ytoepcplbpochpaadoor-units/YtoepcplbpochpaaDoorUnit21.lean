/-
  What the program's own unit's run tells at a Stop: (*mach.run).held, (*mach.run).ask.
-/
import Derived.Test.YtoepcplbpochpaaDoorUnit20
import Derived.Deep.RegionHeld3
import Derived.Handy

namespace Go.Proofs.YtoepcplbpochpaaDoor
open Go.RowKit

set_option maxRecDepth 100000 in
set_option maxHeartbeats 2000000 in
theorem held_any (B : Nat) (s : St) (vo vs : Value) (r : Rg) (w : World) (h : StB w B s vo vs) (hnv : s.env.nv = 16) (ha : r.k = 0 ∨ r.k = 1 → 0 ≤ r.a ∧ r.a < 16) :
    Calls Tryd.prog 116 #[.pointer (some ⟨B, 0, none⟩), .agg #[.int .i64 r.v, .int .i64 r.f, .int .i64 r.t, .int .i64 r.k, .int .i64 r.a]] w fun e w' =>
      e = .returned (.int .i64 (heldE s.regs s.vars r)) ∧ Below w.heap.size w w' := by
  have hB := h.lt
  obtain ⟨v, f, t, k, a⟩ := r
  simp only at ha ⊢
  obtain ⟨w2, hw2⟩ : ∃ w2, w2 = w.alloc (.cells #[.int .i64 v, .int .i64 f, .int .i64 t, .int .i64 k, .int .i64 a] 132) := ⟨_, rfl⟩
  have HS2 : Hid (StB w2 B s vo vs) := by rw [hw2]; exact h.of_block (Below.heap_alloc _ _ _ hB)
  have q : ∀ i, w2.cell? ⟨w.heap.size, i, none⟩ = #[Value.int .i64 v, .int .i64 f, .int .i64 t, .int .i64 k, .int .i64 a][i]? := fun i => by rw [hw2]; exact World.cell?_alloc_at (hn := rfl) ..
  have q3 : w2.cell? ⟨w.heap.size, 3, none⟩ = some (.int .i64 k) := (q 3).trans rfl
  have q4 : w2.cell? ⟨w.heap.size, 4, none⟩ = some (.int .i64 a) := (q 4).trans rfl
  have HB2 : Hid (Below w.heap.size w w2) := by rw [hw2]; exact (Below.refl _ _).alloc (Nat.le_refl _) _
  have HW := hide hw2
  clear q hw2 h
  by_cases h0 : k = 0
  · subst h0
    obtain ⟨a0, a1⟩ := ha (.inl rfl)
    obtain ⟨an, rfl⟩ : ∃ an : Nat, a = an := ⟨a.toNat, by omega⟩
    obtain ⟨y, hy⟩ : ∃ y, y = s.regs an := ⟨_, rfl⟩
    have ca : w2.cell? ⟨B, an, none⟩ = some (.int .i64 y) := by rw [hy]; exact (unhide HS2).1 an (by omega)
    have he := hide (show heldE s.regs s.vars ⟨v, f, t, 0, (an : Int)⟩ = y by rw [hy]; rfl)
    clear hy ha
    go_enter Tryd.func116, Tryd.ntmps116
    go_wp2_with fail
    rw [← unhide HW]
    go_wp2_with fail
    go_region_held3 (fun w' => w'.cell? ⟨w.heap.size, 4, none⟩ = some (.int .i64 (an : Int)) ∧ w'.cell? ⟨B, an, none⟩ = some (.int .i64 y)) (simp [*]) (fail)
    go_wp2_with fail
    go_ret
    exact ⟨ret_int (unhide he).symm, (unhide HB2).drew⟩
  by_cases h1 : k = 1
  · subst h1
    obtain ⟨a0, a1⟩ := ha (.inr rfl)
    obtain ⟨an, rfl⟩ : ∃ an : Nat, a = an := ⟨a.toNat, by omega⟩
    obtain ⟨y, hy⟩ : ∃ y, y = s.vars an := ⟨_, rfl⟩
    have ca : w2.cell? ⟨B, 23 + an, none⟩ = some (.int .i64 y) := by rw [hy]; exact (unhide HS2).2.1 an (by omega)
    have he := hide (show heldE s.regs s.vars ⟨v, f, t, 1, (an : Int)⟩ = y by rw [hy]; rfl)
    clear hy ha
    go_enter Tryd.func116, Tryd.ntmps116
    go_wp2_with fail
    rw [← unhide HW]
    go_wp2_with fail
    go_region_held3 (fun w' => w'.cell? ⟨w.heap.size, 4, none⟩ = some (.int .i64 (an : Int)) ∧ w'.cell? ⟨B, 23 + an, none⟩ = some (.int .i64 y)) (simp [*]) (fail)
    go_wp2_with fail
    go_ret
    exact ⟨ret_int (unhide he).symm, (unhide HB2).drew⟩
  · have e0 : (k == 0) = false := by rw [beq_eq_false_iff_ne]; exact h0
    have e1 : (k == 1) = false := by rw [beq_eq_false_iff_ne]; exact h1
    have he := hide (show heldE s.regs s.vars ⟨v, f, t, k, a⟩ = a by unfold heldE; rw [if_neg h0, if_neg h1])
    clear ha
    go_enter Tryd.func116, Tryd.ntmps116
    go_wp2_with fail
    rw [← unhide HW]
    go_wp2_with fail
    go_ret
    exact ⟨ret_int (unhide he).symm, unhide HB2⟩

theorem Tryd.size61 : (Tryd.prog.info? 61).map (·.size) = some 4 := by kernel_rfl
/-- Four numbers in a block. -/
def Four (w : World) (D : Nat) (f : Nat → Int) : Prop := (∀ v, v < 4 → w.cell? ⟨D, v, none⟩ = some (.int .i64 (f v))) ∧ ∀ o, w.frozen? ⟨D, o, none⟩ = false
theorem Four.lt {w : World} {D : Nat} {f : Nat → Int} (h : Four w D f) : D < w.heap.size := World.block_lt_of_cell? w ⟨D, 0, none⟩ (h.1 0 (by decide))
theorem Four.of_block {w w' : World} {D : Nat} {f : Nat → Int} (h : Four w D f) (hb : w'.heap[D]? = w.heap[D]?) : Four w' D f :=
  ⟨fun v hv => (World.cell?_of_block hb).trans (h.1 v hv), fun o => (World.frozen?_of_block hb).trans (h.2 o)⟩
theorem Four.set {w : World} {D : Nat} {f g : Nat → Int} (h : Four w D f) (v : Nat) (hv : v < 4) (y : Int) (hg : ∀ u, u < 4 → g u = if u = v then y else f u) : Four (w.setCell ⟨D, v, none⟩ (.int .i64 y)) D g := by
  refine ⟨fun u hu => ?_, frozen_set h.2⟩
  rw [hg u hu]
  by_cases e : u = v
  · subst e; rw [cell_put (h.1 u hu), if_pos rfl]
  · rw [cell_set (h.1 u hu) e, if_neg e]
theorem Four.to {w : World} {D : Nat} {f g : Nat → Int} (h : Four w D f) (hg : ∀ u, u < 4 → g u = f u) : Four w D g := ⟨fun u hu => by rw [hg u hu]; exact h.1 u hu, h.2⟩
theorem four_row {w : World} {D : Nat} {a b c d : Value} {t : TypeId} {f : Nat → Int} (h : w.heap[D]? = some (.cells #[a, b, c, d] t (0, 0))) (h0 : a = .int .i64 (f 0)) (h1 : b = .int .i64 (f 1)) (h2 : c = .int .i64 (f 2)) (h3 : d = .int .i64 (f 3)) : Four w D f := by
  refine ⟨fun v hv => ?_, fun o => by simp [World.frozen?, h]⟩
  rw [cell_of_row w D v _ t (0, 0) h]
  rcases (show v = 0 ∨ v = 1 ∨ v = 2 ∨ v = 3 by omega) with rfl | rfl | rfl | rfl
  · rw [h0]; rfl
  · rw [h1]; rfl
  · rw [h2]; rfl
  · rw [h3]; rfl
theorem set4 {w : World} {g : Nat} {z0 z1 z2 z3 : Value} (h : w.heap[g]? = some (.cells #[z0, z1, z2, z3] 61 (0, 0))) (a b c d : Value) :
    ((((w.setCell ⟨g, 0, none⟩ a).setCell ⟨g, 1, none⟩ b).setCell ⟨g, 2, none⟩ c).setCell ⟨g, 3, none⟩ d).heap[g]? = some (.cells #[a, b, c, d] 61 (0, 0)) := by
  have h0 := heap_setCell_same w g 0 _ 61 a h
  have h1 := heap_setCell_same _ g 1 _ 61 b h0
  have h2 := heap_setCell_same _ g 2 _ 61 c h1
  have h3 := heap_setCell_same _ g 3 _ 61 d h2
  rw [h3]; rfl
theorem below4 {B : Nat} {a w : World} {g : Nat} (h : Below B a w) (hg : B ≤ g) (v0 v1 v2 v3 : Value) : Below B a ((((w.setCell ⟨g, 0, none⟩ v0).setCell ⟨g, 1, none⟩ v1).setCell ⟨g, 2, none⟩ v2).setCell ⟨g, 3, none⟩ v3) :=
  (((h.setCell (p := ⟨g, 0, none⟩) hg _).setCell (p := ⟨g, 1, none⟩) hg _).setCell (p := ⟨g, 2, none⟩) hg _).setCell (p := ⟨g, 3, none⟩) hg _

/-- What the ranges of a unit's table keep to. -/
def RgFit (r : Rg) : Prop := 0 ≤ r.v ∧ r.v < 4 ∧ (r.k = 0 ∨ r.k = 1 → 0 ≤ r.a ∧ r.a < 16)
theorem RightU.fit {K S P V : Int} {L : List In4} {R : List Rg} (h : RightU K S P V L R) : ∀ i, i < R.length → RgFit (rg R i) := fun i hi => by
  have h1 := isTab_rg h.tab hi
  obtain ⟨g1, g2, g3, g4⟩ := h.rgs i hi
  have hv := h.v4
  have hk := h.k16
  have hs := h.s16
  simp [isRg] at h1
  refine ⟨by omega, by omega, fun hk => ?_⟩
  rcases hk with e | e
  · have := g3 e; omega
  · have := g4 e; omega

set_option maxRecDepth 100000 in
set_option maxHeartbeats 4000000 in
theorem ask_any (B : Nat) (s : St) (vo vs : Value) (R : List Rg) (ao : Option Addr) (cap i : Nat) (w : World) (h : StB w B s vo vs) (hE : s.env = unitEnv R (some (.slice ao R.length cap))) (hH : Held w ao R) (hF : ∀ i, i < R.length → RgFit (rg R i)) (hlen : R.length ≤ 1000) :
    Calls Tryd.prog 91 #[.pointer (some ⟨B, 0, none⟩), .int .i64 (i : Int)] w fun e w' =>
      e = .returned (.agg #[.int .i64 (toldTo R s.regs s.vars i 0 R.length), .int .i64 (toldTo R s.regs s.vars i 1 R.length), .int .i64 (toldTo R s.regs s.vars i 2 R.length), .int .i64 (toldTo R s.regs s.vars i 3 R.length)]) ∧ Below w.heap.size w w' := by
  have hB := h.lt
  have hnv : s.env.nv = 16 := by rw [hE]; rfl
  have c39 : w.cell? ⟨B, 39, none⟩ = some (.slice ao R.length cap) := by
    have := h.2.2.2.2.2.2.2.2.2.2 39 (by rw [hnv]; decide)
    rw [hE] at this
    exact this
  have KH := hide (fun (r : Rg) (w : World) (h : StB w B s vo vs) (ha : r.k = 0 ∨ r.k = 1 → 0 ≤ r.a ∧ r.a < 16) => held_any B s vo vs r w h hnv ha)
  have HS := hide h
  have HH := hide hH
  have HF := hide hF
  clear h hH hF hE
  go_enter Tryd.func91, Tryd.ntmps91
  go_wp2
  refine wp_loop_rounds 5 ?_
  iterate 4 (rw [rounds_succ]; go_wp2)
  rw [rounds_succ]
  go_wp2_with fail
  obtain ⟨w1, hw1⟩ : ∃ w1, w1 = (w.alloc (.cells #[.int .i64 0, .int .i64 0, .int .i64 0, .int .i64 0] 61)).alloc (.cells #[.int .i64 (-1), .int .i64 (-1), .int .i64 (-1), .int .i64 (-1)] 61) := ⟨_, rfl⟩
  rw [← hw1]
  have hz1 : w1.heap.size = w.heap.size + 2 := by rw [hw1]; simp
  have HB1 : Hid (Below w.heap.size w w1) := by rw [hw1]; exact ((Below.refl _ _).alloc (Nat.le_refl _) _).alloc (by simp) _
  have HD1 : Hid (Four w1 (w.heap.size + 1) (fun v => toldTo R s.regs s.vars i v 0)) := by
    refine four_row (t := 61) (a := .int .i64 (-1)) (b := .int .i64 (-1)) (c := .int .i64 (-1)) (d := .int .i64 (-1)) ?_ rfl rfl rfl rfl
    have hh := heap_alloc_new (w.alloc (.cells #[.int .i64 0, .int .i64 0, .int .i64 0, .int .i64 0] 61)) (.cells #[.int .i64 (-1), .int .i64 (-1), .int .i64 (-1), .int .i64 (-1)] 61)
    rw [show (w.alloc (.cells #[.int .i64 0, .int .i64 0, .int .i64 0, .int .i64 0] 61)).heap.size = w.heap.size + 1 by simp] at hh
    rw [hw1]; exact hh
  have HR1 : Hid (w1.heap[w.heap.size]? = some (.cells #[.int .i64 0, .int .i64 0, .int .i64 0, .int .i64 0] 61 (0, 0))) := by
    rw [hw1]; exact (Below.heap_alloc _ _ _ (by simp)).trans (heap_alloc_new _ _)
  clear hw1
  go_loopw [7] (fun j wr => ∃ k : Nat, k ≤ R.length ∧ j = .int .i64 k ∧ Hid (Four wr (w.heap.size + 1) (fun v => toldTo R s.regs s.vars i v k)) ∧ Hid (Below (w.heap.size + 1) w1 wr)) (fun j _ => R.length - (intOf j).toNat)
  case atStart => exact ⟨0, Nat.zero_le _, rfl, unhide HD1, Below.refl _ _⟩
  case round =>
    obtain ⟨k, hk, rfl, HD, HB⟩ := hrel
    have hBs := (unhide HB).size
    have HBr : Hid (Below w.heap.size w wr) := (unhide HB1).trans ((unhide HB).mono (by omega))
    have d39 := ((unhide HBr).cell (p := ⟨B, 39, none⟩) hB).trans c39
    have hDl : w.heap.size + 1 < wr.heap.size := (unhide HD).lt
    by_cases hlt : k < R.length
    case neg =>
      obtain rfl : k = R.length := by omega
      obtain ⟨x0, hx0⟩ : ∃ x, x = toldTo R s.regs s.vars i 0 R.length := ⟨_, rfl⟩
      obtain ⟨x1, hx1⟩ : ∃ x, x = toldTo R s.regs s.vars i 1 R.length := ⟨_, rfl⟩
      obtain ⟨x2, hx2⟩ : ∃ x, x = toldTo R s.regs s.vars i 2 R.length := ⟨_, rfl⟩
      obtain ⟨x3, hx3⟩ : ∃ x, x = toldTo R s.regs s.vars i 3 R.length := ⟨_, rfl⟩
      have t0 : wr.cell? ⟨w.heap.size + 1, 0, none⟩ = some (.int .i64 x0) := by rw [hx0]; exact (unhide HD).1 0 (by decide)
      have t1 : wr.cell? ⟨w.heap.size + 1, 1, none⟩ = some (.int .i64 x1) := by rw [hx1]; exact (unhide HD).1 1 (by decide)
      have t2 : wr.cell? ⟨w.heap.size + 1, 2, none⟩ = some (.int .i64 x2) := by rw [hx2]; exact (unhide HD).1 2 (by decide)
      have t3 : wr.cell? ⟨w.heap.size + 1, 3, none⟩ = some (.int .i64 x3) := by rw [hx3]; exact (unhide HD).1 3 (by decide)
      have HX := hide (And.intro hx0 (And.intro hx1 (And.intro hx2 hx3)))
      have hr := ((unhide HB).block w.heap.size (by omega)).trans (unhide HR1)
      have HRr := hide hr
      have n0 : wr.cell? ⟨w.heap.size, 0, none⟩ = some (.int .i64 0) := (cell_of_row wr _ 0 _ 61 (0, 0) hr).trans rfl
      have n1 : wr.cell? ⟨w.heap.size, 1, none⟩ = some (.int .i64 0) := (cell_of_row wr _ 1 _ 61 (0, 0) hr).trans rfl
      have n2 : wr.cell? ⟨w.heap.size, 2, none⟩ = some (.int .i64 0) := (cell_of_row wr _ 2 _ 61 (0, 0) hr).trans rfl
      have n3 : wr.cell? ⟨w.heap.size, 3, none⟩ = some (.int .i64 0) := (cell_of_row wr _ 3 _ 61 (0, 0) hr).trans rfl
      have nf : ∀ o, wr.frozen? ⟨w.heap.size, o, none⟩ = false := fun o => by simp [World.frozen?, hr]
      clear hx0 hx1 hx2 hx3 hr
      go_wp2_with fail
      refine bodyPost_ret (results_cell_row rfl _ _ w.heap.size 61 _ (0, 0) _ rfl (set4 (unhide HRr) _ _ _ _) Tryd.underlying61 rfl Tryd.size61) rfl ?_
      exact ⟨by rw [← (unhide HX).1, ← (unhide HX).2.1, ← (unhide HX).2.2.1, ← (unhide HX).2.2.2], below4 (unhide HBr) (Nat.le_refl _) _ _ _ _⟩
    obtain ⟨b, off, rfl, hb, hL⟩ : ∃ b off, ao = some ⟨b, off, none⟩ ∧ b < w.heap.size ∧ Lie w b off R := by
      rcases unhide HH with h | h
      · subst h; exact absurd hlt (by simp)
      · exact h
    obtain ⟨r, hr⟩ : ∃ r, r = rg R k := ⟨_, rfl⟩
    have hA := (hL k hlt).below (unhide HBr) hb
    have hfit := unhide HF k hlt
    rw [← hr] at hA hfit
    obtain ⟨c0, c1, c2, c3, c4⟩ := hA
    have HR := hide hr
    clear hr hL
    by_cases hcov : r.f ≤ (i : Int) ∧ (i : Int) < r.t
    case neg =>
      have HN : Hid (∀ v, toldTo R s.regs s.vars i v (k + 1) = toldTo R s.regs s.vars i v k) := fun v => toldTo_miss (fun h => hcov ⟨by have := h.2.1; rw [← unhide HR] at this; exact this, by have := h.2.2; rw [← unhide HR] at this; exact this⟩)
      rcases (show (i : Int) < r.f ∨ (r.f ≤ (i : Int) ∧ r.t ≤ (i : Int)) by omega) with h | ⟨h, h'⟩
      all_goals
        clear hcov hfit
        go_wp2_with fail
        go_roundw
        case rel => exact ⟨k + 1, by omega, by go_num, ((unhide HD).of_block (Below.heap_alloc _ _ _ hDl)).to (fun v _ => unhide HN v), (unhide HB).alloc (by omega) _⟩
        case measure => simp [intOf]; omega
    obtain ⟨g1, g2⟩ := hcov
    obtain ⟨v0, v3, ha⟩ := hfit
    obtain ⟨vn, hvn⟩ : ∃ vn : Nat, r.v = (vn : Int) := ⟨r.v.toNat, by omega⟩
    have KC := hide (fun (w : World) (h : StB w B s vo vs) => unhide KH r w h ha)
    obtain ⟨y, hy⟩ : ∃ y, y = heldE s.regs s.vars r := ⟨_, rfl⟩
    rw [← hy] at KC
    have HN : Hid (∀ v, v < 4 → toldTo R s.regs s.vars i v (k + 1) = if v = vn then y else toldTo R s.regs s.vars i v k) := fun v _ => by
      by_cases e : v = vn
      · rw [if_pos e, toldTo_hit (show Hits (rg R k) i v by rw [← unhide HR]; exact ⟨by rw [hvn, e], g1, g2⟩), ← unhide HR, hy]
      · rw [if_neg e, toldTo_miss (fun h => e (by have := h.1; rw [← unhide HR] at this; omega))]
    have hv4 : vn < 4 := by omega
    have cd := (unhide HD).1 vn hv4
    have fd := (unhide HD).2
    rw [hvn] at c0 KC
    have HY := hide hy
    clear hvn ha hy KH
    go_wp2_with fail
    obtain ⟨w5, hw5⟩ : ∃ w5, w5 = wr.alloc (.cells #[.int .i64 (vn : Int), .int .i64 r.f, .int .i64 r.t, .int .i64 r.k, .int .i64 r.a] 132) := ⟨_, rfl⟩
    rw [← hw5]
    have q : ∀ o, w5.cell? ⟨wr.heap.size, o, none⟩ = #[Value.int .i64 (vn : Int), .int .i64 r.f, .int .i64 r.t, .int .i64 r.k, .int .i64 r.a][o]? := fun o => by rw [hw5]; exact World.cell?_alloc_at (hn := rfl) ..
    have q0 : w5.cell? ⟨wr.heap.size, 0, none⟩ = some (.int .i64 (vn : Int)) := (q 0).trans rfl
    have q1 : w5.cell? ⟨wr.heap.size, 1, none⟩ = some (.int .i64 r.f) := (q 1).trans rfl
    have q2 : w5.cell? ⟨wr.heap.size, 2, none⟩ = some (.int .i64 r.t) := (q 2).trans rfl
    have q3 : w5.cell? ⟨wr.heap.size, 3, none⟩ = some (.int .i64 r.k) := (q 3).trans rfl
    have q4 : w5.cell? ⟨wr.heap.size, 4, none⟩ = some (.int .i64 r.a) := (q 4).trans rfl
    have HD5 : Hid (Four w5 (w.heap.size + 1) (fun v => toldTo R s.regs s.vars i v k)) := by rw [hw5]; exact (unhide HD).of_block (Below.heap_alloc _ _ _ hDl)
    have HB5 : Hid (Below (w.heap.size + 1) w1 w5) := by rw [hw5]; exact (unhide HB).alloc (by omega) _
    have HS5 : Hid (StB w5 B s vo vs) := by rw [hw5]; exact ((unhide HS).of_block ((unhide HBr).block B hB)).of_block (Below.heap_alloc _ _ _ (Nat.lt_of_lt_of_le hB (unhide HBr).size))
    have hz5 : wr.heap.size < w5.heap.size := by rw [hw5]; simp
    have cd5 := (unhide HD5).1 vn hv4
    have fd5 := (unhide HD5).2
    have hD5 : w.heap.size + 1 < w5.heap.size := by omega
    have hne : wr.heap.size ≠ w.heap.size + 1 := by omega
    have hk5 : ∀ (wq : World) (o : Nat) (z : Value), (wq.setCell ⟨w.heap.size + 1, vn, none⟩ z).cell? ⟨wr.heap.size, o, none⟩ = wq.cell? ⟨wr.heap.size, o, none⟩ := fun wq o z => World.cell?_setCell_other _ _ _ _ (fun e => by injection e with e1; omega)
    clear hw5 q c0 c1 c2 c3 c4 cd fd HD HB
    have v4 : (vn : Int) < 4 := by omega
    go_region_held3 (fun w' => w'.cell? ⟨wr.heap.size, 0, none⟩ = some (.int .i64 (vn : Int)) ∧ w'.cell? ⟨wr.heap.size, 1, none⟩ = some (.int .i64 r.f) ∧ w'.cell? ⟨wr.heap.size, 2, none⟩ = some (.int .i64 r.t) ∧ w'.cell? ⟨wr.heap.size, 3, none⟩ = some (.int .i64 r.k) ∧ w'.cell? ⟨wr.heap.size, 4, none⟩ = some (.int .i64 r.a)) (first | (simp [*]; done) | (refine ⟨?_, ?_, ?_, ?_, ?_⟩ <;> assumption))
      ((go_at_call 116; refine (unhide KC _ ?_).mono ?_; exact (unhide HS5).drew; rintro e w6 ⟨rfl, hb6⟩; have x0 := (hb6.cell (p := ⟨wr.heap.size, 0, none⟩) hz5).trans q0; have x1 := (hb6.cell (p := ⟨wr.heap.size, 1, none⟩) hz5).trans q1; have x2 := (hb6.cell (p := ⟨wr.heap.size, 2, none⟩) hz5).trans q2; have x3 := (hb6.cell (p := ⟨wr.heap.size, 3, none⟩) hz5).trans q3; have x4 := (hb6.cell (p := ⟨wr.heap.size, 4, none⟩) hz5).trans q4; have cd6 := (hb6.cell (p := ⟨w.heap.size + 1, vn, none⟩) hD5).trans cd5; have fd6 : w6.frozen? ⟨w.heap.size + 1, vn, none⟩ = false := (hb6.frozen (p := ⟨w.heap.size + 1, vn, none⟩) hD5).trans (fd5 vn); have HD6 := hide ((unhide HD5).of_block (hb6.block (w.heap.size + 1) hD5)); have HB6 := hide ((unhide HB5).drew.trans (hb6.mono (show w.heap.size + 1 ≤ w5.heap.size by omega))); clear hb6))
    go_wp2_with fail
    go_roundw
    case rel => exact ⟨k + 1, by omega, by go_num, (unhide HD6).set vn hv4 y (unhide HN), (unhide HB6).setCell (p := ⟨w.heap.size + 1, vn, none⟩) (Nat.le_refl _) _⟩
    case measure => simp [intOf]; omega
end Go.Proofs.YtoepcplbpochpaaDoor
