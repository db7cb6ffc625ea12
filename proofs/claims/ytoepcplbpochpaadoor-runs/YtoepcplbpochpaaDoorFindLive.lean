/-
  What is live at each place: lodge.findLive.
-/
import Derived.Test.YtoepcplbpochpaaDoorUpdate
import Derived.Test.YtoepcplbpochpaaDoorBegin
namespace Go.Proofs.YtoepcplbpochpaaDoor
open Go.RowKit

theorem gridV_plain (f : Nat → Nat → Bool) : ∀ i, i < 480 → (gridV f i).oneCell' = true := fun _ _ => rfl
theorem held_at {w : World} {ao : Option Addr} {L : List In4} (h : HeldIns w ao L) (hn : 0 < L.length) : ∃ b off, ao = some ⟨b, off, none⟩ ∧ b < w.heap.size ∧ LieI w b off L := by
  rcases h with h | h
  · subst h; exact absurd hn (by simp)
  · exact h

theorem two_new (w : World) (a b : Obj) : ((w.alloc a).alloc b).heap[w.heap.size + 1]? = some b := by
  rw [show w.heap.size + 1 = (w.alloc a).heap.size by simp]; exact heap_alloc_new _ _
theorem two_row (w : World) (a : Obj) (c c' : Array Value) (t : TypeId) : ((w.alloc a).alloc (.cells c t)).setRow (w.heap.size + 1) c' = (w.alloc a).alloc (.cells c' t) := by
  rw [show w.heap.size + 1 = (w.alloc a).heap.size by simp]; exact World.setRow_alloc_new _ _ _ _
/-- The world behind the making of two rows. -/
theorem two_rows (w : World) (T n : Nat) (c c' : Nat → Value) : ∃ w2, w2 = (w.alloc (.cells (rowA n c) T)).alloc (.cells (rowA n c') T) ∧ Hid (Rowd w2 w.heap.size T n c) ∧ Hid (Rowd w2 (w.heap.size + 1) T n c') ∧ Hid (Below w.heap.size w w2) := by
  refine ⟨_, rfl, ?_, two_new _ _ _, ((Below.refl _ _).alloc (Nat.le_refl _) _).alloc (by simp) _⟩
  exact (rowd_alloc w T n c).below ((Below.refl _ _).alloc (Nat.le_refl _) _)

set_option maxRecDepth 100000 in
set_option maxHeartbeats 4000000 in
theorem findLive_any (L : List In4) (ao : Option Addr) (cap : Nat) (w : World) (hH : HeldIns w ao L) (hL : Inside L) (hn1 : 1 ≤ L.length) (hn : L.length ≤ 40) :
    Calls Tryd.prog 67 #[.slice ao L.length cap] w fun e w' => e = .returned (.agg (rowA 480 (gridV (liveB L)))) ∧ Below w.heap.size w w' := by
  obtain ⟨b, off, rfl, hb, hI⟩ := held_at hH hn1
  have HI := hide hI
  have KU := hide (fun i (hi : i < L.length) B f w hB => update_any L i (by omega) (by have := (hL i hi).1; omega) (by have := (hL i hi).2; omega) B f w hB)
  have HIT := hide (fun r m => (Chaos.iter_succ (dnR L r L.length) m (fun _ => false)))
  clear hI hH hL
  go_enter Tryd.func67, Tryd.ntmps67
  go_wp2_with (refine wpList_store_row ?h1 108 ?h2 ?h3 ?h4 (w.heap.size + 1) ?h5 ?h6 ?h7 ?h8 ?h9 ?h10 ?h11 ?h12 ?h13 ?h14; case h4 => rfl)
  case h1 => rfl
  case h6 => rfl
  case h7 => rfl
  case h10 => exact two_new _ _ _
  case h11 => exact Tryd.size108
  case h12 => rfl
  case h13 => kernel_rfl
  rw [two_row, zero108]
  obtain ⟨w2, hw2, HA2, HB2, HL2⟩ := two_rows w 108 480 (fun _ => .bool false) (fun _ => .bool false)
  rw [← hw2]
  clear hw2
  go_wp2_with fail
  go_loopw [4] (fun i' wr => ∃ m : Nat, m ≤ L.length ∧ i' = .int .i64 m ∧ Hid (Rowd wr (w.heap.size + 1) 108 480 (gridV (fun i r => liveR L r m i))) ∧ Hid (Rowd wr w.heap.size 108 480 (fun _ => .bool false)) ∧ Hid (Below w.heap.size w wr)) (fun i' _ => L.length - (intOf i').toNat)
  case atStart => exact ⟨0, by omega, rfl, unhide HB2, unhide HA2, unhide HL2⟩
  case round =>
    obtain ⟨m, hm, rfl, HB, HA, HL⟩ := hrel
    by_cases hlt : m < L.length
    case neg =>
      have hml : m = L.length := by omega
      have HB' : Hid (Rowd wr (w.heap.size + 1) 108 480 (gridV (liveB L))) := by rw [hml] at HB; exact unhide HB
      clear HB
      iterate 60 (first | (refine wpList_load_row rfl 108 _ rfl (w.heap.size + 1) rfl 108 _ (0, 0) _ (unhide HB') Tryd.underlying108 rfl (by rw [rowA_size]; exact Tryd.size108) ?_; refine wpList_store_row rfl 108 _ _ rfl w.heap.size _ rfl rfl 108 _ (unhide HA) (by rw [rowA_size]; exact Tryd.size108) (by rw [rowA_size, rowA_size]) (rowA_plain (gridV_plain _)) ?_; clear HB') | go_values | go_skip | go_guarded | go_step | skip)
      go_wp2_with fail
      refine bodyPost_ret (results_cell_row rfl _ _ w.heap.size 108 _ (0, 0) _ rfl (setRow_heap wr w.heap.size _ _ 108 _ (unhide HA)) Tryd.underlying108 rfl (by rw [rowA_size]; exact Tryd.size108)) rfl ?_
      exact ⟨rfl, below_setRow (unhide HL) (Nat.le_refl _) _⟩
    obtain ⟨wo, rfl⟩ : ∃ wo, wo = wr := ⟨_, rfl⟩
    go_wp2_with fail
    go_loopw [5] (fun i' wr => ∃ (k : Nat) (j : Int) (g : Nat → Nat → Bool), k ≤ L.length ∧ j = (k : Int) - 1 ∧ i' = .int .i64 j ∧ Hid (Rowd wr (w.heap.size + 1) 108 480 (gridV g)) ∧ Hid (∀ r : Nat, dnR L r k (fun i => g i r) = dnR L r L.length (fun i => liveR L r m i)) ∧ Hid (Rowd wr w.heap.size 108 480 (fun _ => .bool false)) ∧ Hid (Below w.heap.size w wr)) (fun i' _ => (intOf i' + 1).toNat)
    case atStart => exact ⟨L.length, _, _, Nat.le_refl _, rfl, by go_num, unhide HB, fun _ => rfl, unhide HA, unhide HL⟩
    case round =>
      obtain ⟨k, j, g, hk, hj, rfl, HG, HD, HA1, HL1⟩ := hrel
      cases k with
      | zero =>
        obtain rfl : j = -1 := by omega
        clear hj
        go_wp2_with fail
        go_roundw
        case rel =>
          refine ⟨m + 1, by omega, by go_num, (unhide HG).congr (fun o ho => ?_), unhide HA1, unhide HL1⟩
          have := congrFun (unhide HD (o % 12)) (o / 12)
          unfold gridV
          rw [show g (o / 12) (o % 12) = dnR L ((o % 12 : Nat) : Int) L.length (fun i => liveR L ((o % 12 : Nat) : Int) m i) (o / 12) from this]
          show Value.bool _ = Value.bool (liveR L _ (m + 1) _)
          unfold liveR
          rw [unhide HIT]
        case measure => simp [intOf]; omega
      | succ k =>
        obtain rfl : j = (k : Int) := by omega
        clear hj
        have hki : (k : Int) < L.length := by omega
        obtain ⟨q0, q1, q2, q3⟩ := ((unhide HI) k (by omega)).below (unhide HL1) hb
        have KU' := hide (unhide KU k (by omega) (w.heap.size + 1) g wr (unhide HG))
        have hsz := (unhide HA1).lt
        go_wp2_with fail
        refine (unhide KU').mono ?_
        rintro e w5 ⟨rfl, hg5, hk5⟩
        have HG5 : Hid (Rowd w5 (w.heap.size + 1) 108 480 (gridV (fun i r => upR L r k (fun i => g i r) i))) := hg5.congr (fun o ho => by unfold gridV upTo; rw [if_pos (by omega)])
        have HA5 : Hid (Rowd w5 w.heap.size 108 480 (fun _ => .bool false)) := (unhide HA1).keep hk5 (by omega)
        have HL5 : Hid (Below w.heap.size w w5) := (unhide HL1).trans (hk5.below (Nat.le_of_lt hsz) (fun k hk e => by omega))
        clear hg5 hk5 q0 q1 q2 q3 hsz
        go_wp2_with fail
        go_roundw
        case rel => exact ⟨k, _, _, by omega, rfl, rfl, unhide HG5, fun r => unhide HD r, unhide HA5, unhide HL5⟩
        case measure => simp [intOf]
end Go.Proofs.YtoepcplbpochpaaDoor
