/-
  What is live at each place: lodge.findLive.
-/
import Derived.Test.YtoepcplbpochpaaDoorUnit38
import Derived.Test.YtoepcplbpochpaaDoorUnit14
import Derived.Test.YtoepcplbpochpaaDoorUnit36

namespace Go.Proofs.YtoepcplbpochpaaDoor
open Go.RowKit

theorem gridV_plain (f : Nat → Nat → Bool) : ∀ i, i < 480 → (gridV f i).oneCell' = true := fun _ _ => rfl
theorem held_at {w : World} {ao : Option Addr} {L : List In4} (h : HeldIns w ao L) (hn : 0 < L.length) : ∃ b off, ao = some ⟨b, off, none⟩ ∧ b < w.heap.size ∧ LieI w b off L := by
  rcases h with h | h
  · subst h; exact absurd hn (by simp)
  · exact h

theorem two_new (w : World) (a b : Obj) : ((w.alloc a).alloc b).heap[w.heap.size + 1]? = some b := by
  rw [show w.heap.size + 1 = (w.alloc a).heap.size by simp]; exact heap_alloc_new _ _
theorem two_row (w : World) (a : Obj) (c c' : Array Value) (t : TypeId) : ((w.alloc a).alloc (.cells c t)).setRow (w.heap.size + 1) c' = (w.alloc a).alloc (.cells c' t) := by
  rw [show w.heap.size + 1 = (w.alloc a).heap.size by simp]; exact World.setRow_alloc_new _ _ _ _
/-- The world behind the making of two rows. -/
theorem two_rows (w : World) (T n : Nat) (c c' : Nat → Value) : ∃ w2, w2 = (w.alloc (.cells (rowA n c) T)).alloc (.cells (rowA n c') T) ∧ Hid (Rowd w2 w.heap.size T n c) ∧ Hid (Rowd w2 (w.heap.size + 1) T n c') ∧ Hid (Below w.heap.size w w2) := by
  refine ⟨_, rfl, ?_, two_new _ _ _, ((Below.refl _ _).alloc (Nat.le_refl _) _).alloc (by simp) _⟩
  exact (rowd_alloc w T n c).below ((Below.refl _ _).alloc (Nat.le_refl _) _)

set_option maxRecDepth 100000 in
set_option maxHeartbeats 4000000 in
theorem findLive_any (L : List In4) (ao : Option Addr) (cap : Nat) (w : World) (hH : HeldIns w ao L) (hL : Inside L) (hn1 : 1 ≤ L.length) (hn : L.length ≤ 40) :
    Calls Tryd.prog 67 #[.slice ao L.length cap] w fun e w' => e = .returned (.agg (rowA 480 (gridV (liveB L)))) ∧ Below w.heap.size w w' := by
  obtain ⟨b, off, rfl, hb, hI⟩ := held_at hH hn1
  have HI := hide hI
  have KU := hide (fun i (hi : i < L.length) B f w hB => update_any L i (by omega) (by have := (hL i hi).1; omega) (by have := (hL i hi).2; omega) B f w hB)
  have HIT := hide (fun r m => (Chaos.iter_succ (dnR L r L.length) m (fun _ => false)))
  clear hI hH hL
  go_enter Tryd.func67, Tryd.ntmps67
  go_wp2_with (refine wpList_store_row ?h1 108 ?h2 ?h3 ?h4 (w.heap.size + 1) ?h5 ?h6 ?h7 ?h8 ?h9 ?h10 ?h11 ?h12 ?h13 ?h14; case h4 => rfl)
  case h1 => rfl
  case h6 => rfl
  case h7 => rfl
  case h10 => exact two_new _ _ _
  case h11 => exact Tryd.size108
  case h12 => rfl
  case h13 => kernel_rfl
  rw [two_row, zero108]
  obtain ⟨w2, hw2, HA2, HB2, HL2⟩ := two_rows w 108 480 (fun _ => .bool false) (fun _ => .bool false)
  rw [← hw2]
  clear hw2
  go_wp2_with fail
  go_loopw [4] (fun i' wr => ∃ m : Nat, m ≤ L.length ∧ i' = .int .i64 m ∧ Hid (Rowd wr (w.heap.size + 1) 108 480 (gridV (fun i r => liveR L r m i))) ∧ Hid (Rowd wr w.heap.size 108 480 (fun _ => .bool false)) ∧ Hid (Below w.heap.size w wr)) (fun i' _ => L.length - (intOf i').toNat)
  case atStart => exact ⟨0, by omega, rfl, unhide HB2, unhide HA2, unhide HL2⟩
  case round =>
    obtain ⟨m, hm, rfl, HB, HA, HL⟩ := hrel
    by_cases hlt : m < L.length
    case neg =>
      have hml : m = L.length := by omega
      have HB' : Hid (Rowd wr (w.heap.size + 1) 108 480 (gridV (liveB L))) := by rw [hml] at HB; exact unhide HB
      clear HB
      iterate 60 (first | (refine wpList_load_row rfl 108 _ rfl (w.heap.size + 1) rfl 108 _ (0, 0) _ (unhide HB') Tryd.underlying108 rfl (by rw [rowA_size]; exact Tryd.size108) ?_; refine wpList_store_row rfl 108 _ _ rfl w.heap.size _ rfl rfl 108 _ (unhide HA) (by rw [rowA_size]; exact Tryd.size108) (by rw [rowA_size, rowA_size]) (rowA_plain (gridV_plain _)) ?_; clear HB') | go_values | go_skip | go_guarded | go_step | skip)
      go_wp2_with fail
      refine bodyPost_ret (results_cell_row rfl _ _ w.heap.size 108 _ (0, 0) _ rfl (setRow_heap wr w.heap.size _ _ 108 _ (unhide HA)) Tryd.underlying108 rfl (by rw [rowA_size]; exact Tryd.size108)) rfl ?_
      exact ⟨rfl, below_setRow (unhide HL) (Nat.le_refl _) _⟩
    obtain ⟨wo, rfl⟩ : ∃ wo, wo = wr := ⟨_, rfl⟩
    go_wp2_with fail
    go_loopw [5] (fun i' wr => ∃ (k : Nat) (j : Int) (g : Nat → Nat → Bool), k ≤ L.length ∧ j = (k : Int) - 1 ∧ i' = .int .i64 j ∧ Hid (Rowd wr (w.heap.size + 1) 108 480 (gridV g)) ∧ Hid (∀ r : Nat, dnR L r k (fun i => g i r) = dnR L r L.length (fun i => liveR L r m i)) ∧ Hid (Rowd wr w.heap.size 108 480 (fun _ => .bool false)) ∧ Hid (Below w.heap.size w wr)) (fun i' _ => (intOf i' + 1).toNat)
    case atStart => exact ⟨L.length, _, _, Nat.le_refl _, rfl, by go_num, unhide HB, fun _ => rfl, unhide HA, unhide HL⟩
    case round =>
      obtain ⟨k, j, g, hk, hj, rfl, HG, HD, HA1, HL1⟩ := hrel
      cases k with
      | zero =>
        obtain rfl : j = -1 := by omega
        clear hj
        go_wp2_with fail
        go_roundw
        case rel =>
          refine ⟨m + 1, by omega, by go_num, (unhide HG).congr (fun o ho => ?_), unhide HA1, unhide HL1⟩
          have := congrFun (unhide HD (o % 12)) (o / 12)
          unfold gridV
          rw [show g (o / 12) (o % 12) = dnR L ((o % 12 : Nat) : Int) L.length (fun i => liveR L ((o % 12 : Nat) : Int) m i) (o / 12) from this]
          show Value.bool _ = Value.bool (liveR L _ (m + 1) _)
          unfold liveR
          rw [unhide HIT]
        case measure => simp [intOf]; omega
      | succ k =>
        obtain rfl : j = (k : Int) := by omega
        clear hj
        have hki : (k : Int) < L.length := by omega
        obtain ⟨q0, q1, q2, q3⟩ := ((unhide HI) k (by omega)).below (unhide HL1) hb
        have KU' := hide (unhide KU k (by omega) (w.heap.size + 1) g wr (unhide HG))
        have hsz := (unhide HA1).lt
        go_wp2_with fail
        refine (unhide KU').mono ?_
        rintro e w5 ⟨rfl, hg5, hk5⟩
        have HG5 : Hid (Rowd w5 (w.heap.size + 1) 108 480 (gridV (fun i r => upR L r k (fun i => g i r) i))) := hg5.congr (fun o ho => by unfold gridV upTo; rw [if_pos (by omega)])
        have HA5 : Hid (Rowd w5 w.heap.size 108 480 (fun _ => .bool false)) := (unhide HA1).keep hk5 (by omega)
        have HL5 : Hid (Below w.heap.size w w5) := (unhide HL1).trans (hk5.below (Nat.le_of_lt hsz) (fun k hk e => by omega))
        clear hg5 hk5 q0 q1 q2 q3 hsz
        go_wp2_with fail
        go_roundw
        case rel => exact ⟨k, _, _, by omega, rfl, rfl, unhide HG5, fun r => unhide HD r, unhide HA5, unhide HL5⟩
        case measure => simp [intOf]
end Go.Proofs.YtoepcplbpochpaaDoor

/-
  Which registers collide: (*lodge.collisions).add, lodge.firstFree, lodge.countColours.
-/
namespace Go.Proofs.YtoepcplbpochpaaDoor
open Go.RowKit

theorem gcell {w : World} {B T n : Nat} {f : Nat → Nat → Bool} (h : Rowd w B T n (gridV f)) {i r : Nat} (hr : r < 12) (ho : i * 12 + r < n) : w.cell? ⟨B, i * 12 + r, none⟩ = some (.bool (f i r)) := by
  rw [h.cell ho]; unfold gridV; rw [show (i * 12 + r) / 12 = i by omega, show (i * 12 + r) % 12 = r by omega]
theorem gset {w : World} {B T n : Nat} {f g : Nat → Nat → Bool} (h : Rowd w B T n (gridV f)) {i r : Nat} (hr : r < 12) {b : Bool} (hg : ∀ j q, q < 12 → g j q = if j = i ∧ q = r then b else f j q) :
    Rowd (w.setCell ⟨B, i * 12 + r, none⟩ (.bool b)) B T n (gridV g) := by
  refine (h.set (i * 12 + r) (.bool b)).congr (fun o ho => ?_)
  unfold gridV
  rw [hg (o / 12) (o % 12) (by omega)]
  by_cases e : o = i * 12 + r
  · rw [if_pos e, if_pos ⟨by omega, by omega⟩]
  · rw [if_neg e, if_neg (fun h => e (by omega))]

/-- A set of registers; a list of twelve numbers. -/
def setV (s : Nat → Bool) : Nat → Value := fun q => .bool (s q)
def numV (c : Nat → Nat) : Nat → Value := fun q => .int .i64 (c q)

/-- r collides with the first k of a set. -/
def hitTo (r : Nat) (s : Nat → Bool) (h : Nat → Nat → Bool) (k : Nat) : Nat → Nat → Bool := fun a b => h a b || (a == r && (decide (b < k) && s b)) || (b == r && (decide (a < k) && s a))
theorem hitTo_zero (r : Nat) (s : Nat → Bool) (h : Nat → Nat → Bool) : hitTo r s h 0 = h := by
  funext a b; unfold hitTo; simp
theorem hitTo_skip {r : Nat} {s : Nat → Bool} (h : Nat → Nat → Bool) {k : Nat} (hs : s k = false) : hitTo r s h (k + 1) = hitTo r s h k := by
  have key : ∀ a, (decide (a < k + 1) && s a) = (decide (a < k) && s a) := fun a => by
    by_cases e : a = k
    · subst e; rw [hs]; simp
    · congr 1; exact decide_eq_decide.2 (by omega)
  funext a b; unfold hitTo; rw [key, key]
theorem hitTo_step {r : Nat} {s : Nat → Bool} (h : Nat → Nat → Bool) {k : Nat} (hs : s k = true) (a b : Nat) : hitTo r s h (k + 1) a b = if a = k ∧ b = r then true else if a = r ∧ b = k then true else hitTo r s h k a b := by
  have key : ∀ a, (decide (a < k + 1) && s a) = (decide (a < k) && s a || a == k) := fun a => by
    by_cases e : a = k
    · subst e; rw [hs]; simp
    · rw [show (a == k) = false by rw [beq_eq_false_iff_ne]; exact e, Bool.or_false]; congr 1; exact decide_eq_decide.2 (by omega)
  unfold hitTo
  rw [key, key]
  by_cases e1 : a = k ∧ b = r
  · rw [if_pos e1]; obtain ⟨rfl, rfl⟩ := e1; simp
  rw [if_neg e1]
  by_cases e2 : a = r ∧ b = k
  · rw [if_pos e2]; obtain ⟨rfl, rfl⟩ := e2; simp
  rw [if_neg e2]
  have f1 : (a == r && (decide (b < k) && s b || b == k)) = (a == r && (decide (b < k) && s b)) := by
    by_cases e : a = r
    · rw [show (b == k) = false by rw [beq_eq_false_iff_ne]; exact fun h => e2 ⟨e, h⟩, Bool.or_false]
    · rw [show (a == r) = false by rw [beq_eq_false_iff_ne]; exact e]; rfl
  have f2 : (b == r && (decide (a < k) && s a || a == k)) = (b == r && (decide (a < k) && s a)) := by
    by_cases e : b = r
    · rw [show (a == k) = false by rw [beq_eq_false_iff_ne]; exact fun h => e1 ⟨h, e⟩, Bool.or_false]
    · rw [show (b == r) = false by rw [beq_eq_false_iff_ne]; exact e]; rfl
  rw [f1, f2]
theorem hitTo_all (r : Nat) (s : Nat → Bool) (h : Nat → Nat → Bool) {a b : Nat} (ha : a < 12) (hb : b < 12) : hitTo r s h 12 a b = hitAdd r s h a b := by
  have key : ∀ a : Nat, (a == r) = ((a : Int) == (r : Int)) := fun a => by
    by_cases e : a = r
    · subst e; simp
    · rw [show (a == r) = false by rw [beq_eq_false_iff_ne]; exact e, show ((a : Int) == (r : Int)) = false by rw [beq_eq_false_iff_ne]; omega]
  unfold hitTo hitAdd
  rw [decide_eq_true hb, decide_eq_true ha, Bool.true_and, Bool.true_and, key, key]

/-- A row that was boxed. -/
theorem box_row (w : World) (T n : Nat) (c : Nat → Value) : ∃ w2, w2 = w.alloc (.cells (rowA n c) T) ∧ Hid (Rowd w2 w.heap.size T n c) ∧ Hid (Below w.heap.size w w2) ∧ w.heap.size < w2.heap.size :=
  ⟨_, rfl, rowd_alloc w T n c, (Below.refl _ _).alloc (Nat.le_refl _) _, by simp⟩

set_option maxRecDepth 100000 in
set_option maxHeartbeats 4000000 in
theorem add_any (B : Nat) (h : Nat → Nat → Bool) (r : Nat) (hr : r < 12) (s : Nat → Bool) (w : World) (hB : Rowd w B 184 144 (gridV h)) :
    Calls Tryd.prog 137 #[.pointer (some ⟨B, 0, none⟩), .int .i64 r, .agg (rowA 12 (setV s))] w fun e w' => e = .returned (.tuple #[]) ∧ Rowd w' B 184 144 (gridV (hitAdd r s h)) ∧ Keep (fun k => k = B) w w' := by
  have HB := hide hB
  have hne : w.heap.size ≠ B := by have := hB.lt; omega
  have hri : (r : Int) < 12 := by omega
  clear hB
  obtain ⟨w1, hw1, HC1, HL1, hz1⟩ := box_row w 105 12 (setV s)
  have HW := hide hw1
  have HB1 : Hid (Rowd w1 B 184 144 (gridV (hitTo r s h 0))) := by rw [hitTo_zero]; exact (unhide HB).below (unhide HL1)
  have HK1 : Hid (Keep (fun k => k = B) w w1) := Keep.of_below (unhide HL1) _
  clear hw1 HL1 HB
  go_enter Tryd.func137, Tryd.ntmps137
  go_wp2_with fail
  rw [← unhide HW]
  go_wp2_with fail
  go_loopw [6] (fun i' wr => ∃ k : Nat, k ≤ 12 ∧ i' = .int .i64 k ∧ Hid (Rowd wr B 184 144 (gridV (hitTo r s h k))) ∧ Hid (Rowd wr w.heap.size 105 12 (setV s)) ∧ Hid (Keep (fun k => k = B) w wr)) (fun i' _ => 12 - (intOf i').toNat)
  case atStart => exact ⟨0, by omega, rfl, unhide HB1, unhide HC1, unhide HK1⟩
  case round =>
    obtain ⟨k, hk, rfl, HB, HC, HK⟩ := hrel
    by_cases hlt : k < 12
    case neg =>
      obtain rfl : k = 12 := by omega
      go_wp2_with fail
      go_returns
      exact ⟨rfl, (unhide HB).congr (fun o ho => by unfold gridV; rw [hitTo_all r s h (by omega) (by omega)]), unhide HK⟩
    have hki : (k : Int) < 12 := by omega
    have c := (unhide HC).cell hlt
    unfold setV at c
    obtain ⟨t, ht⟩ : ∃ t, t = s k := ⟨_, rfl⟩
    rw [← ht] at c
    have HT := hide ht
    clear ht
    cases t
    · go_wp2_with fail
      go_roundw
      case rel => exact ⟨k + 1, by omega, by go_num, by rw [hitTo_skip h (unhide HT).symm]; exact unhide HB, unhide HC, unhide HK⟩
      case measure => simp [intOf]; omega
    · have hf : ∀ o, wr.frozen? ⟨B, o, none⟩ = false := (unhide HB).free
      have c1 := gcell (unhide HB) (i := r) (r := k) hlt (by omega)
      have c2 := gcell (unhide HB) (i := k) (r := r) hr (by omega)
      obtain ⟨o1, ho1⟩ : ∃ v, v = Value.bool (hitTo r s h k r k) := ⟨_, rfl⟩
      obtain ⟨o2, ho2⟩ : ∃ v, v = Value.bool (hitTo r s h k k r) := ⟨_, rfl⟩
      rw [← ho1] at c1
      rw [← ho2] at c2
      have HX := hide (gset (g := fun a b => if a = r ∧ b = k then true else hitTo r s h k a b) (unhide HB) (i := r) (r := k) hlt (b := true) (fun _ _ _ => rfl))
      have hf2 : ∀ o, (wr.setCell ⟨B, r * 12 + k, none⟩ (.bool true)).frozen? ⟨B, o, none⟩ = false := (unhide HX).free
      obtain ⟨o3, ho3⟩ : ∃ v, (wr.setCell ⟨B, r * 12 + k, none⟩ (.bool true)).cell? ⟨B, k * 12 + r, none⟩ = some v := ⟨_, gcell (unhide HX) (i := k) (r := r) hr (by omega)⟩
      clear ho1 ho2
      go_wp2_with fail
      go_roundw
      case rel =>
        refine ⟨k + 1, by omega, by go_num, ?_, ?_, keep_set (keep_set (unhide HK) _ _) _ _⟩
        · exact gset (unhide HX) (i := k) (r := r) hr (fun a b _ => hitTo_step h (unhide HT).symm a b)
        · exact ((unhide HC).of_block (heap_setCell_other _ _ _ _ hne)).of_block (heap_setCell_other _ _ _ _ hne)
      case measure => simp [intOf]; omega
end Go.Proofs.YtoepcplbpochpaaDoor
