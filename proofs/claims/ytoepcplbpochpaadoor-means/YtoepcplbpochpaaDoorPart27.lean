/-
  Args out of raw numbers: lodgelaw.fit.
-/
import Derived.Test.YtoepcplbpochpaaDoorPart26
import Derived.Test.YtoepcplbpochpaaDoorPart2
import Derived.Test.YtoepcplbpochpaaDoorPart10
import Derived.Handy
import Derived.OwnWalk
import Derived.Deep.RegionHeld3
import Derived.Test.YtoepcplbpochpaaDoorPart19
import Derived.Test.YtoepcplbpochpaaDoorPart13
import Derived.Deep.DeepFit
import Derived.Test.YtoepcplbpochpaaDoorPart24

namespace Go.Proofs.YtoepcplbpochpaaDoor
open Go.RowKit

theorem Tryd.infoLawFit : (Tryd.prog.info? 3).map (fun i => (i.zero, i.size, i.bytes)) = some (some (.int .i64 0), 1, 8) := by kernel_rfl

set_option maxRecDepth 100000 in
set_option maxHeartbeats 4000000 in
theorem lawFit_any (raw : List Int) (ao : Option Addr) (cap P : Nat) (w : World) (hH : HeldI w ao raw) (hv : ∀ i, i < raw.length → Rng (nth raw i)) (hl : raw.length ≤ 9223372036854775807) (hP : P ≤ 4) :
    Calls Tryd.prog 30 #[.slice ao raw.length cap, .int .i64 P] w fun e w' => ∃ v, e = .returned v ∧ w'.ownsRow w.heap.size 3 1 v P (intCells (fitTo raw P)) ∧ Below w.heap.size w w' := by
  have HH := hide hH
  have HV := hide hv
  have KP := hide (fun (c n : Int) (w : World) (h : Rng c) (hn : 0 < n) => lawPick_any c n w h.1 h.2 hn)
  obtain ⟨i0, hi, hz0, hz1, hz2⟩ := info_parts Tryd.infoLawFit
  clear hH hv
  go_enter Tryd.func30, Tryd.ntmps30
  go_wp2_with fail
  go_loopw [5, 6] (fun v i wr => ∃ k : Nat, k ≤ P ∧ i = .int .i64 k ∧ wr.ownsRow w.heap.size 3 1 v k (intCells (fitTo raw k)) ∧ Below w.heap.size w wr) (fun _ i _ => P - (intOf i).toNat)
  case atStart => exact ⟨0, Nat.zero_le _, rfl, World.ownsRow_nil _ _ _ _, Below.refl _ _⟩
  case round =>
    obtain ⟨k, hk, rfl, hown, hbel⟩ := hrel
    have hB := hbel.size
    by_cases hlt : k < P
    case neg =>
      obtain rfl : k = P := by omega
      go_wp2_with fail
      go_returns
      exact ⟨_, rfl, hown, hbel⟩
    have hki : (k : Int) < (P : Int) := by omega
    have HS : Hid (intCells (fitTo raw (k + 1)) = intCells (fitTo raw k) ++ [.int .i64 (fitV raw k)]) := by show intCells (fitTo raw k ++ [fitV raw k]) = _; exact intCells_snoc _ _
    by_cases h0 : raw.length = 0
    · have hv0 : fitV raw k = 0 := by unfold fitV; rw [if_pos h0]
      have hgt : ¬ (0 < (raw.length : Int)) := by omega
      rw [hv0] at HS
      have H0 := hide h0
      clear h0 hv0
      go_wp2_with (at_builtin; refine wpList_append_own _ rfl _ _ 32 rfl w.heap.size 3 i0 (.int .i64 0) 1 8 Tryd.underlying32 hi hz0 hz1 hz2 rfl (by decide) _ _ _ rfl (hown.alloc _) ⟨wr.heap.size, 0, none⟩ 1 1 [.int .i64 0] rfl rfl (cells_new _ _ (by simp) 3 _) (by intro u hu; simp only [List.mem_cons, List.not_mem_nil, or_false] at hu; subst hu; rfl) (by unfold maxLen; omega) (by omega) (by simp; omega) ?_)
      intro v' w2 hown' hgrow _
      have hb2 : Below w.heap.size w w2 := (hbel.alloc hbel.size _).grown hgrow (by simp; omega) (own_ge hown)
      rw [← unhide HS] at hown'
      clear hgrow hown
      go_wp2_with fail
      go_roundw
      case rel => exact ⟨k + 1, by omega, by go_num, hown', hb2⟩
      case measure => simp [intOf]; omega
    · have hv0 : fitV raw k = pickI (nth raw (k % raw.length)) 65536 := by unfold fitV; rw [if_neg h0]
      have hmod : k % raw.length < raw.length := Nat.mod_lt _ (by omega)
      obtain ⟨b, off, rfl, hb, hc⟩ : ∃ b off, ao = some ⟨b, off, none⟩ ∧ b < w.heap.size ∧ ∀ i, i < raw.length → w.cell? ⟨b, off + i, none⟩ = some (.int .i64 (nth raw i)) := by
        rcases unhide HH with h | h
        · subst h; exact absurd rfl h0
        · exact h
      have d1 : wr.cell? ⟨b, off + k % raw.length, none⟩ = some (.int .i64 (nth raw (k % raw.length))) := (hbel.cell (p := ⟨b, off + k % raw.length, none⟩) hb).trans (hc _ hmod)
      have hr := unhide HV _ hmod
      have hm : (k : Int).tmod (raw.length : Int) = ((k % raw.length : Nat) : Int) := by rw [Int.tmod_eq_emod_of_nonneg (by omega)]; rfl
      have hne : ((raw.length : Int) == 0) = false := by rw [beq_eq_false_iff_ne]; omega
      have hgt : 0 < (raw.length : Int) := by omega
      have i1 : (((k % raw.length : Nat) : Int)) < (raw.length : Int) := by omega
      rw [hv0] at HS
      obtain ⟨c, hce⟩ : ∃ c, c = nth raw (k % raw.length) := ⟨_, rfl⟩
      rw [← hce] at d1 HS hr
      obtain ⟨j, hje⟩ : ∃ j, j = k % raw.length := ⟨_, rfl⟩
      rw [← hje] at d1 hm i1
      have hm0 : 0 ≤ (k : Int).tmod (raw.length : Int) := by omega
      have hm1 : (k : Int).tmod (raw.length : Int) < (raw.length : Int) := by omega
      have hm2 : ((k : Int).tmod (raw.length : Int)).toNat = j := by omega
      clear hc hce hv0 hje hmod
      have H0 := hide h0
      clear h0
      go_wp2_with fail
      refine (unhide KP c 65536 _ hr (by decide)).mono ?_
      rintro _ w4 ⟨rfl, hw4⟩
      rw [hw4]
      clear hw4
      go_wp2_with (at_builtin; refine wpList_append_own _ rfl _ _ 32 rfl w.heap.size 3 i0 (.int .i64 0) 1 8 Tryd.underlying32 hi hz0 hz1 hz2 rfl (by decide) _ _ _ rfl (hown.alloc _) ⟨wr.heap.size, 0, none⟩ 1 1 [.int .i64 (pickI c 65536)] rfl rfl (cells_new _ _ (by simp) 3 _) (by intro u hu; simp only [List.mem_cons, List.not_mem_nil, or_false] at hu; subst hu; rfl) (by unfold maxLen; omega) (by omega) (by simp; omega) ?_)
      intro v' w2 hown' hgrow _
      have hb2 : Below w.heap.size w w2 := (hbel.alloc hbel.size _).grown hgrow (by simp; omega) (own_ge hown)
      rw [← unhide HS] at hown'
      clear hgrow hown d1
      go_wp2_with fail
      go_roundw
      case rel => exact ⟨k + 1, by omega, by go_num, hown', hb2⟩
      case measure => simp [intOf]; omega
end Go.Proofs.YtoepcplbpochpaaDoor

/-
  One list of numbers is the beginning of another (lodgelaw.ahead).
-/
namespace Go.Proofs.YtoepcplbpochpaaDoor
open Go.RowKit

set_option maxRecDepth 100000 in
set_option maxHeartbeats 2000000 in
theorem lawAhead_any (xs ys : List Int) (ao bo : Option Addr) (c1 c2 : Nat) (w : World) (hA : HeldI w ao xs) (hB : HeldI w bo ys) (hl : xs.length ≤ 9223372036854775807) (hl' : ys.length ≤ 9223372036854775807) (hp : ∀ i, i < xs.length → i < ys.length → nth xs i = nth ys i) :
    Calls Tryd.prog 73 #[.slice ao xs.length c1, .slice bo ys.length c2] w fun e w' => e = .returned (.bool true) ∧ Below w.heap.size w w' := by
  have HA := hide hA
  have HB := hide hB
  have HP := hide hp
  clear hA hB hp
  go_enter Tryd.func73, Tryd.ntmps73
  go_wp2_with fail
  go_loopw [5] (fun i wr => ∃ k : Nat, k ≤ xs.length ∧ i = .int .i64 k ∧ Hid (Below w.heap.size w wr)) (fun i _ => xs.length - (intOf i).toNat)
  case atStart => exact ⟨0, Nat.zero_le _, rfl, Below.refl _ _⟩
  case round =>
    obtain ⟨k, hk, rfl, HW⟩ := hrel
    by_cases hlt : k < xs.length
    case neg =>
      have hc : ¬ ((k : Int) < (xs.length : Int)) := by omega
      go_wp2_with fail
      go_ret
      exact ⟨rfl, unhide HW⟩
    by_cases hlt' : k < ys.length
    case neg =>
      have hc : (k : Int) < (xs.length : Int) := by omega
      have hc' : ¬ ((k : Int) < (ys.length : Int)) := by omega
      go_wp2_with fail
      go_ret
      exact ⟨rfl, unhide HW⟩
    obtain ⟨b1, o1, rfl, h1, g1⟩ : ∃ b off, ao = some ⟨b, off, none⟩ ∧ b < w.heap.size ∧ ∀ i, i < xs.length → w.cell? ⟨b, off + i, none⟩ = some (.int .i64 (nth xs i)) := by
      rcases unhide HA with h | h
      · subst h; exact absurd hlt (by simp)
      · exact h
    obtain ⟨b2, o2, rfl, h2, g2⟩ : ∃ b off, bo = some ⟨b, off, none⟩ ∧ b < w.heap.size ∧ ∀ i, i < ys.length → w.cell? ⟨b, off + i, none⟩ = some (.int .i64 (nth ys i)) := by
      rcases unhide HB with h | h
      · subst h; exact absurd hlt' (by simp)
      · exact h
    obtain ⟨y, hy⟩ : ∃ y, y = nth xs k := ⟨_, rfl⟩
    have d1 : wr.cell? ⟨b1, o1 + k, none⟩ = some (.int .i64 y) := by rw [hy]; exact ((unhide HW).cell (p := ⟨b1, o1 + k, none⟩) h1).trans (g1 k hlt)
    have d2 : wr.cell? ⟨b2, o2 + k, none⟩ = some (.int .i64 y) := by rw [hy, unhide HP k hlt hlt']; exact ((unhide HW).cell (p := ⟨b2, o2 + k, none⟩) h2).trans (g2 k hlt')
    have k0 : (0 : Int) ≤ (k : Int) := by omega
    have k1 : (k : Int) < (xs.length : Int) := by omega
    have k2 : (k : Int) < (ys.length : Int) := by omega
    clear g1 g2 hy
    go_wp2_with fail
    go_region_held3 (fun w' => w'.cell? ⟨b1, o1 + k, none⟩ = some (.int .i64 y) ∧ w'.cell? ⟨b2, o2 + k, none⟩ = some (.int .i64 y)) (simp [*]) (fail)
    go_wp2_with fail
    go_roundw
    case rel => exact ⟨k + 1, by omega, by go_num, (unhide HW).drew⟩
    case measure => simp [intOf]; omega
end Go.Proofs.YtoepcplbpochpaaDoor

/-
  What two runs showed, held together: lodgelaw.numbers, along, alike.
-/
namespace Go.Proofs.YtoepcplbpochpaaDoor
open Go.RowKit

theorem Tryd.infoNum : (Tryd.prog.info? 3).map (fun i => (i.zero, i.size, i.bytes)) = some (some (.int .i64 0), 1, 8) := by kernel_rfl
def noTo (l : List Sn) : Nat → List Int
  | 0 => []
  | k + 1 => noTo l k ++ [(snAt l k).no]
theorem noTo_len (l : List Sn) : ∀ k, (noTo l k).length = k
  | 0 => rfl
  | k + 1 => by show (noTo l k ++ [_]).length = _; rw [List.length_append, noTo_len l k]; rfl
theorem noTo_at (l : List Sn) : ∀ k i, i < k → nth (noTo l k) i = (snAt l i).no
  | 0, _, h => absurd h (Nat.not_lt_zero _)
  | k + 1, i, h => by
    have hl := noTo_len l k
    show nth (noTo l k ++ [_]) i = _
    by_cases e : i < k
    · unfold nth; rw [List.getD_eq_getElem?_getD, List.getElem?_append_left (by omega), ← List.getD_eq_getElem?_getD]; exact noTo_at l k i e
    · obtain rfl : i = k := by omega
      unfold nth; rw [List.getD_eq_getElem?_getD, List.getElem?_append_right (by omega), hl, Nat.sub_self]; rfl

set_option maxRecDepth 100000 in
set_option maxHeartbeats 4000000 in
theorem numbers_any (l : List Sn) (ao : Option Addr) (cap : Nat) (w : World) (hH : HeldS w ao l) (hl : l.length ≤ 200000) :
    Calls Tryd.prog 74 #[.slice ao l.length cap] w fun e w' => ∃ xo xc, e = .returned (.slice xo l.length xc) ∧ HeldI w' xo (noTo l l.length) ∧ Below w.heap.size w w' := by
  have HH := hide hH
  obtain ⟨i0, hi, hz0, hz1, hz2⟩ := info_parts Tryd.infoNum
  clear hH
  go_enter Tryd.func74, Tryd.ntmps74
  go_wp2_with fail
  go_loopw [3, 4] (fun v i wr => ∃ k : Nat, k ≤ l.length ∧ i = .int .i64 k ∧ wr.ownsRow w.heap.size 3 1 v k (intCells (noTo l k)) ∧ Below w.heap.size w wr) (fun _ i _ => l.length - (intOf i).toNat)
  case atStart => exact ⟨0, Nat.zero_le _, rfl, World.ownsRow_nil _ _ _ _, Below.refl _ _⟩
  case round =>
    obtain ⟨k, hk, rfl, hown, hbel⟩ := hrel
    have hB := hbel.size
    by_cases hlt : k < l.length
    case neg =>
      obtain rfl : k = l.length := by omega
      go_wp2_with fail
      go_returns
      obtain ⟨xo, xc, hve, hxa, _⟩ := own_heldI (xs := noTo l l.length) (by rw [noTo_len]; exact hown)
      rw [noTo_len] at hve
      exact ⟨xo, xc, congrArg Ending.returned hve, hxa, hbel⟩
    have hki : (k : Int) < (l.length : Int) := by omega
    have k0 : (0 : Int) ≤ (k : Int) := by omega
    have HS : Hid (intCells (noTo l (k + 1)) = intCells (noTo l k) ++ [.int .i64 (snAt l k).no]) := by show intCells (noTo l k ++ [(snAt l k).no]) = _; exact intCells_snoc _ _
    obtain ⟨b, off, rfl, hb, hc⟩ : ∃ b off, ao = some ⟨b, off, none⟩ ∧ b < w.heap.size ∧ ∀ i, i < l.length → SeenC w b (off + i * 5) (snAt l i) := by
      rcases unhide HH with h | h
      · rw [h] at hlt; exact absurd hlt (Nat.not_lt_zero _)
      · exact h
    have d1 : wr.cell? ⟨b, off + k * 5, none⟩ = some (.int .i64 (snAt l k).no) := (hbel.cell (p := ⟨b, off + k * 5, none⟩) hb).trans (hc _ hlt).1
    obtain ⟨x, hx⟩ : ∃ x, x = (snAt l k).no := ⟨_, rfl⟩
    rw [← hx] at d1 HS
    clear hc hx
    go_wp2_with (at_builtin; refine wpList_append_own _ rfl _ _ 32 rfl w.heap.size 3 i0 (.int .i64 0) 1 8 Tryd.underlying32 hi hz0 hz1 hz2 rfl (by decide) _ _ _ rfl (hown.alloc _) ⟨wr.heap.size, 0, none⟩ 1 1 [.int .i64 x] rfl rfl (cells_new _ _ (by simp) 3 _) (by intro u hu; simp only [List.mem_cons, List.not_mem_nil, or_false] at hu; subst hu; rfl) (by unfold maxLen; omega) (by omega) (by simp; omega) ?_)
    intro v' w2 hown' hgrow _
    have hb2 : Below w.heap.size w w2 := (hbel.alloc hbel.size _).grown hgrow (by simp; omega) (own_ge hown)
    rw [← unhide HS] at hown'
    clear hgrow hown d1
    go_wp2_with fail
    go_roundw
    case rel => exact ⟨k + 1, by omega, by go_num, hown', hb2⟩
    case measure => simp [intOf]; omega

set_option maxRecDepth 100000 in
set_option maxHeartbeats 4000000 in
theorem along_any (s t : St) (b1 b2 : Nat) (v1 v2 : Value) (w : World) (h1 : ResOf w b1 v1 s) (h2 : ResOf w b2 v2 t) (hg : ShowOk s t) (ls : s.stops.length ≤ 200000) (lt : t.stops.length ≤ 200000) :
    Calls Tryd.prog 32 #[v1, v2] w fun e w' => e = .returned (.bool true) ∧ Below w.heap.size w w' := by
  obtain ⟨vo, vs, rfl, o1, s1⟩ := h1
  obtain ⟨vo', vs', rfl, o2, s2⟩ := h2
  obtain ⟨ao, co, rfl, hA, hl⟩ := own_heldI o1
  obtain ⟨bo, do', rfl, hB, hl'⟩ := own_heldI o2
  obtain ⟨as', cs, rfl, hC, hm⟩ := own_heldS s1
  obtain ⟨bs, ds, rfl, hD, hm'⟩ := own_heldS s2
  unfold maxLen at hl hm hl' hm'
  have K1 := hide (fun w (hA : HeldI w ao s.outs) (hB : HeldI w bo t.outs) => lawAhead_any s.outs t.outs ao bo co do' w hA hB (by omega) (by omega) hg.outs)
  have N1 := hide (fun w (hA : HeldS w as' s.stops) => numbers_any s.stops as' cs w hA ls)
  have N2 := hide (fun w (hA : HeldS w bs t.stops) => numbers_any t.stops bs ds w hA lt)
  have K2 := hide (fun (xo yo : Option Addr) (c1 c2 : Nat) w (hA : HeldI w xo (noTo s.stops s.stops.length)) (hB : HeldI w yo (noTo t.stops t.stops.length)) => lawAhead_any (noTo s.stops s.stops.length) (noTo t.stops t.stops.length) xo yo c1 c2 w hA hB (by rw [noTo_len]; omega) (by rw [noTo_len]; omega) (fun i h1 h2 => by rw [noTo_len] at h1 h2; rw [noTo_at _ _ _ h1, noTo_at _ _ _ h2]; exact hg.stops i h1 h2))
  rw [noTo_len, noTo_len] at K2
  have HA := hide hA
  have HB := hide hB
  have HC := hide hC
  have HD := hide hD
  have hlo := hg.lo
  have hls := hg.ls
  have i1 : (s.outs.length : Int) ≤ (t.outs.length : Int) := by omega
  have i2 : (s.stops.length : Int) ≤ (t.stops.length : Int) := by omega
  clear hA hB hC hD o1 o2 s1 s2 hg
  obtain ⟨w1, hw1, HR1, HB1, hz1⟩ := box_res w s t ao co as' cs bo do' bs ds
  have HW1 := hide hw1
  clear hw1
  go_enter Tryd.func32, Tryd.ntmps32
  go_upto_region 1 with fail
  rw [← unhide HW1]
  have a3 := (unhide HR1).a3
  have b3 := (unhide HR1).b3
  go_wp2_with fail
  refine (unhide K1 w1 ((unhide HA).below (unhide HB1)) ((unhide HB).below (unhide HB1))).mono ?_
  rintro e w2 ⟨rfl, hb2⟩
  have HR2 := hide ((unhide HR1).below hb2 (by omega))
  have HB2 : Hid (Below w.heap.size w w2) := (unhide HB1).trans (hb2.mono (by omega))
  have hz2 := hb2.size
  have a4 := (unhide HR2).a4
  have b4 := (unhide HR2).b4
  have HC2 := hide ((unhide HC).below (unhide HB2))
  have HD2 := hide ((unhide HD).below (unhide HB2))
  clear hb2 HR1 a3 b3
  go_wp2_with fail
  go_region_held3 (fun w' => w'.cell? ⟨w.heap.size, 4, none⟩ = some (.slice as' s.stops.length cs) ∧ w'.cell? ⟨w.heap.size + 1, 4, none⟩ = some (.slice bs t.stops.length ds)) (first | go_keep | (simp [*]; done) | assumption)
    (first
      | (go_at_call 74; first | (have _h := HS1; go_fit (unhide N2 _ (by exact unhide HD5)); rintro e w6 ⟨yo, yc, rfl, hya, hb6'⟩; have hb6 : Below w5.heap.size w5 w6 := ⟨hb6'.os, hb6'.tape, hb6'.output, hb6'.size, hb6'.block⟩; have HS22 := hide hya; have HS12 := hide ((unhide HS1).below hb6); have HB6 : Hid (Below w.heap.size w w6) := (unhide HB5).trans (hb6.mono (unhide HB5).size); have HR6 := hide ((unhide HR5).below hb6 (by omega)); have f4 := (unhide HR6).a4; have g4 := (unhide HR6).b4; have hz6 := hb6.size; clear hb6 hb6' hya d4 e4 _h) | (have _h := HS2; go_fit (unhide N1 _ (by exact unhide HC5)); rintro e w6 ⟨yo, yc, rfl, hya, hb6'⟩; have hb6 : Below w5.heap.size w5 w6 := ⟨hb6'.os, hb6'.tape, hb6'.output, hb6'.size, hb6'.block⟩; have HS12 := hide hya; have HS22 := hide ((unhide HS2).below hb6); have HB6 : Hid (Below w.heap.size w w6) := (unhide HB5).trans (hb6.mono (unhide HB5).size); have HR6 := hide ((unhide HR5).below hb6 (by omega)); have f4 := (unhide HR6).a4; have g4 := (unhide HR6).b4; have hz6 := hb6.size; clear hb6 hb6' hya d4 e4 _h) | (go_fit (unhide N1 _ (by exact unhide HC2)); rintro e w5 ⟨xo, xc, rfl, hxa, hb5'⟩; have hb5 : Below w2.heap.size w2 w5 := ⟨hb5'.os, hb5'.tape, hb5'.output, hb5'.size, hb5'.block⟩; have HS1 := hide hxa; have HB5 : Hid (Below w.heap.size w w5) := (unhide HB2).trans (hb5.mono (unhide HB2).size); have HR5 := hide ((unhide HR2).below hb5 (by omega)); have HC5 := hide ((unhide HC).below (unhide HB5)); have HD5 := hide ((unhide HD).below (unhide HB5)); have d4 := (unhide HR5).a4; have e4 := (unhide HR5).b4; have hz5 := hb5.size; clear hb5 hb5' hxa a4 b4) | (go_fit (unhide N2 _ (by exact unhide HD2)); rintro e w5 ⟨xo, xc, rfl, hxa, hb5'⟩; have hb5 : Below w2.heap.size w2 w5 := ⟨hb5'.os, hb5'.tape, hb5'.output, hb5'.size, hb5'.block⟩; have HS2 := hide hxa; have HB5 : Hid (Below w.heap.size w w5) := (unhide HB2).trans (hb5.mono (unhide HB2).size); have HR5 := hide ((unhide HR2).below hb5 (by omega)); have HC5 := hide ((unhide HC).below (unhide HB5)); have HD5 := hide ((unhide HD).below (unhide HB5)); have d4 := (unhide HR5).a4; have e4 := (unhide HR5).b4; have hz5 := hb5.size; clear hb5 hb5' hxa a4 b4))
      | (go_at_call 73; first | (go_fit (unhide K2 xo yo _ _ _ (by exact unhide HS12) (by exact unhide HS22)); rintro e w7 ⟨rfl, hb7'⟩; have hb7 : Below w6.heap.size w6 w7 := ⟨hb7'.os, hb7'.tape, hb7'.output, hb7'.size, hb7'.block⟩; have HB7 : Hid (Below w.heap.size w w7) := (unhide HB6).trans (hb7.mono (unhide HB6).size); have HR7 := hide ((unhide HR6).below hb7 (by omega)); have h4 := (unhide HR7).a4; have i4 := (unhide HR7).b4; clear hb7 hb7' f4 g4) | (go_fit (unhide K2 yo xo _ _ _ (by exact unhide HS12) (by exact unhide HS22)); rintro e w7 ⟨rfl, hb7'⟩; have hb7 : Below w6.heap.size w6 w7 := ⟨hb7'.os, hb7'.tape, hb7'.output, hb7'.size, hb7'.block⟩; have HB7 : Hid (Below w.heap.size w w7) := (unhide HB6).trans (hb7.mono (unhide HB6).size); have HR7 := hide ((unhide HR6).below hb7 (by omega)); have h4 := (unhide HR7).a4; have i4 := (unhide HR7).b4; clear hb7 hb7' f4 g4)))
  all_goals
    clear h4 i4
    obtain ⟨a0, a1, a2, a3, a4, b0, b1, b2, b3, b4⟩ := unhide HR7
    go_wp2_with fail
    go_returns
    exact ⟨rfl, unhide HB7⟩

set_option maxRecDepth 100000 in
set_option maxHeartbeats 4000000 in
theorem alike_any (s t : St) (b1 b2 : Nat) (v1 v2 : Value) (w : World) (h1 : ResOf w b1 v1 s) (h2 : ResOf w b2 v2 t) (hg : ShowOk s t) :
    Calls Tryd.prog 33 #[v1, v2] w fun e w' => ∃ bt, e = .returned (.bool bt) ∧ (s.kind ≠ 2 → bt = true) ∧ Below w.heap.size w w' := by
  obtain ⟨vo, vs, rfl, o1, s1⟩ := h1
  obtain ⟨vo', vs', rfl, o2, s2⟩ := h2
  obtain ⟨ao, co, rfl, _, hl⟩ := own_heldI o1
  obtain ⟨bo, do', rfl, _, hl'⟩ := own_heldI o2
  obtain ⟨as', cs, rfl, _, hm⟩ := own_heldS s1
  obtain ⟨bs, ds, rfl, _, hm'⟩ := own_heldS s2
  have hf := hg.fin
  obtain ⟨w1, hw1, HR1, HB1, hz1⟩ := box_res w s t ao co as' cs bo do' bs ds
  have HW1 := hide hw1
  have HF := hide hf
  clear hw1 o1 o2 s1 s2 hg hl hl' hm hm' hf
  go_enter Tryd.func33, Tryd.ntmps33
  go_upto_region 1 with fail
  rw [← unhide HW1]
  obtain ⟨a0, a1, a2, a3, a4, b0, b1, b2, b3, b4⟩ := unhide HR1
  by_cases hk : s.kind = 2
  case neg =>
    obtain ⟨f1, f2, f3, f4⟩ := unhide HF hk
    rw [f1] at b0
    rw [f2] at b1
    rw [f3] at b3
    rw [f4] at b4
    clear f1 f2 f3 f4 hk
    go_wp2_with fail
    go_returns
    exact ⟨_, rfl, fun _ => rfl, unhide HB1⟩
  by_cases k1 : s.kind = t.kind
  case neg =>
    have k1' : (s.kind == t.kind) = false := by rw [beq_eq_false_iff_ne]; exact k1
    have HK := hide hk
    clear hk k1
    go_wp2_with fail
    go_returns
    exact ⟨_, rfl, fun h => absurd (unhide HK) h, unhide HB1⟩
  by_cases k2 : s.val = t.val
  case neg =>
    have k1' : (s.kind == t.kind) = true := by rw [beq_iff_eq]; exact k1
    have k2' : (s.val == t.val) = false := by rw [beq_eq_false_iff_ne]; exact k2
    have HK := hide hk
    clear hk k1 k2
    go_wp2_with fail
    go_returns
    exact ⟨_, rfl, fun h => absurd (unhide HK) h, unhide HB1⟩
  by_cases k3 : s.outs.length = t.outs.length
  case neg =>
    have k1' : (s.kind == t.kind) = true := by rw [beq_iff_eq]; exact k1
    have k2' : (s.val == t.val) = true := by rw [beq_iff_eq]; exact k2
    have k3' : ((s.outs.length : Int) == (t.outs.length : Int)) = false := by rw [beq_eq_false_iff_ne]; omega
    have HK := hide hk
    clear hk k1 k2 k3
    go_wp2_with fail
    go_returns
    exact ⟨_, rfl, fun h => absurd (unhide HK) h, unhide HB1⟩
  have k1' : (s.kind == t.kind) = true := by rw [beq_iff_eq]; exact k1
  have k2' : (s.val == t.val) = true := by rw [beq_iff_eq]; exact k2
  have k3' : ((s.outs.length : Int) == (t.outs.length : Int)) = true := by rw [beq_iff_eq]; omega
  have HK := hide hk
  clear hk k1 k2 k3
  go_wp2_with fail
  go_returns
  exact ⟨_, rfl, fun h => absurd (unhide HK) h, unhide HB1⟩
end Go.Proofs.YtoepcplbpochpaaDoor

/-
  The walk through lodgelaw.Means.
-/
namespace Go.Proofs.YtoepcplbpochpaaDoor
open Go.RowKit

/-- What the document's run of a program answers. -/
def RefProg : Prop := ∀ (P R V : Int) (L : List In4) (ac aa : Option Addr) (cc ca : Nat) (xs : List Int) (fuel : Int) (w : World), HeldIns w ac L → HeldI w aa xs → L.length ≤ 9223372036854775807 → xs.length ≤ 9223372036854775807 →
    Calls Tryd.prog 18 #[.agg #[.int .i64 P, .int .i64 R, .int .i64 V, .slice ac L.length cc], .slice aa xs.length ca, .int .i64 fuel] w (fun e w' => ∃ v vp, e = .returned (.tuple #[v, vp, .int .i64 (runE P R V L xs fuel).1]) ∧ ResOf w' w.heap.size v (runE P R V L xs fuel).2 ∧ Below w.heap.size w w')
/-- What the document's run of a unit answers. -/
def RefUnit : Prop := ∀ (K S P V : Int) (L : List In4) (T : ByteArray) (ac aa : Option Addr) (cc ca : Nat) (xs : List Int) (fuel : Int) (w : World), HeldIns w ac L → HeldI w aa xs → L.length ≤ 9223372036854775807 → xs.length ≤ 9223372036854775807 → T.size ≤ maxLen →
    Calls Tryd.prog 24 #[.agg #[.int .i64 K, .int .i64 S, .int .i64 P, .int .i64 V, .slice ac L.length cc, .string T], .slice aa xs.length ca, .int .i64 fuel] w (RunPost w (runU K S P V L T (tabOf T) xs fuel))
theorem ref_run (RP : RefProg) {P R V : Nat} {L : List In4} (hp : RightP P R V L) {xs : List Int} (hx : ArgsOk xs P) (ac aa : Option Addr) (cc ca f : Nat) (hf : f ≤ 100000) (w : World) (hH : HeldIns w ac L) (hA : HeldI w aa xs) :
    Calls Tryd.prog 18 #[.agg #[.int .i64 P, .int .i64 R, .int .i64 V, .slice ac L.length cc], .slice aa xs.length ca, .int .i64 f] w (fun e w' => ∃ v vp, e = .returned (.tuple #[v, vp, .int .i64 0]) ∧ ResOf w' w.heap.size v (runSt L f (st0 xs)) ∧ Below w.heap.size w w') := by
  have h := RP P R V L ac aa cc ca xs f w hH hA (by have := hp.n40; omega) (by have := hp.p4; have := hx.len; omega)
  rw [runE_ok hp hx hf] at h
  exact h
theorem ref_mach (RU : RefUnit) {P R V K : Nat} {L : List In4} (hp : RightP P R V L) (hK : 2 ≤ K) (hK' : K ≤ 16) {xs : List Int} (hx : ArgsOk xs P) (uo aa : Option Addr) (uc ca f : Nat) (hf : f ≤ 100000) (w : World) (hH : HeldIns w uo (cmpC P R K L)) (hA : HeldI w aa xs) :
    Calls Tryd.prog 24 #[.agg #[.int .i64 K, .int .i64 (slotsB L P R K), .int .i64 P, .int .i64 V, .slice uo (cmpC P R K L).length uc, .string (encT (cmpR P R V K L))], .slice aa xs.length ca, .int .i64 f] w (RunPost w (0, runSt (cmpC P R K L) f (stU (cmpR P R V K L) none xs))) := by
  have hTs : (encT (cmpR P R V K L)).size ≤ maxLen := Nat.le_trans (tab_size (unit_ok hp hK hK').2) (by unfold maxLen; omega)
  have hCl : (cmpC P R K L).length ≤ 9223372036854775807 := by
    rw [cmpC_len]
    have := wTo_len (homS L R K) (homA L R K) K (liveB L 0) P L L.length
    have := hp.p4
    have := hp.n40
    unfold cmpQ; omega
  have h := RU K (slotsB L P R K) P V (cmpC P R K L) (encT (cmpR P R V K L)) uo aa uc ca xs f w hH hA hCl (by have := hp.p4; have := hx.len; omega) hTs
  rw [runU_ok hp hK hK' hx hf] at h
  exact h
/-- Behind the document's run of a program: its result, boxed. -/
theorem after_prog {w w6 : World} {s : St} {v : Value} (h : ResOf w6 w.heap.size v s) (hb : Below w.heap.size w w6) : ∃ oo oc so sc, v = .agg #[.int .i64 s.kind, .int .i64 s.val, .int .i64 (s.steps : Int), .slice oo s.outs.length oc, .slice so s.stops.length sc] ∧
    ∃ w7, w7 = w6.alloc (.cells #[.int .i64 s.kind, .int .i64 s.val, .int .i64 (s.steps : Int), .slice oo s.outs.length oc, .slice so s.stops.length sc] 37) ∧ Hid (ResAt w7 w6.heap.size w.heap.size s oo oc so sc) ∧ Hid (Below w.heap.size w w7) ∧ w.heap.size ≤ w6.heap.size := by
  obtain ⟨vo, vs, rfl, ho, hs⟩ := h
  obtain ⟨oo, oc, rfl, _, _⟩ := own_heldI ho
  obtain ⟨so, sc, rfl, _, _⟩ := own_heldS hs
  refine ⟨oo, oc, so, sc, rfl, _, rfl, ⟨heap_alloc_new _ _, ?_, ?_⟩, hb.trans ((below_alloc _ _).mono hb.size), hb.size⟩
  · exact own_keep ho (Keep.of_below (below_alloc _ _) (fun _ => False)) (fun _ _ h => h)
  · exact own_keep hs (Keep.of_below (below_alloc _ _) (fun _ => False)) (fun _ _ h => h)
theorem step_len (x : In4) (s : St) : (stepSt x s).stops.length ≤ s.stops.length + 1 := by
  by_cases h : x.op = 11
  · obtain ⟨op, d, a, b⟩ := x
    simp only at h
    subst h
    rw [step_stops11, List.length_append]; exact Nat.le_refl _
  · obtain ⟨op, d, a, b⟩ := x
    rw [step_stops h]; omega
theorem run_len (C : List In4) : ∀ (m : Nat) (s : St), (runSt C m s).stops.length ≤ s.stops.length + m
  | 0, _ => Nat.le_refl _
  | m + 1, s => by
    cases h : s.on with
    | false => rw [run_off _ _ _ h]; omega
    | true =>
      rw [run_on (by omega) h, Nat.add_sub_cancel]
      have h1 := run_len C m (stepSt (inAt C s.at_) s)
      have h2 := step_len (inAt C s.at_) s
      omega

set_option maxRecDepth 100000 in
set_option maxHeartbeats 8000000 in
theorem means_bad (P0 R0 V0 : Int) (L : List In4) (ac : Option Addr) (cc : Nat) (k : Int) (nums : List Int) (na : Option Addr) (nc : Nat) (n m : Int) (w : World) (hH : HeldIns w ac L) (hl : L.length ≤ 9223372036854775807) (hT : Tab w) (hw0 : 0 < w.heap.size) (hE : cmpE P0 R0 V0 k L ≠ 0) :
    Calls Tryd.prog 7 #[.agg #[.int .i64 P0, .int .i64 R0, .int .i64 V0, .slice ac L.length cc], .int .i64 k, .slice na nums.length nc, .int .i64 n, .int .i64 m] w fun e w' => e = .returned (.bool true) ∧ Below w.heap.size w w' := by
  obtain ⟨w1, hw1, HP1, HL1, hz1⟩ := box_prog w P0 R0 V0 (.slice ac L.length cc)
  have KM := hide (made_bad P0 R0 V0 k L ac cc w1 (hH.below' (unhide HL1)) hl (hT.below (unhide HL1) hw0) (by omega) hE)
  obtain ⟨x, hx⟩ : ∃ x, x = cmpE P0 R0 V0 k L := ⟨_, rfl⟩
  rw [← hx] at KM hE
  unfold zUnit at KM
  have hne : (x != 0) = true := by rw [bne_iff_ne]; exact hE
  have HW := hide hw1
  clear hw1 hx hE
  go_enter Tryd.func7, Tryd.ntmps7
  go_upto_region 1 with fail
  rw [← unhide HW]
  have p0 := (unhide HP1).c0
  have p1 := (unhide HP1).c1
  have p2 := (unhide HP1).c2
  have p3 := (unhide HP1).c3
  go_wp2_with fail
  refine (unhide KM).mono ?_
  rintro _ w2 ⟨rfl, hb2⟩
  have HL2 : Hid (Below w.heap.size w w2) := (unhide HL1).trans (hb2.mono (by omega))
  have hs2 := (unhide HL2).size
  clear hb2 p0 p1 p2 p3
  go_wp2_with fail
  go_returns
  exact ⟨rfl, (unhide HL2).alloc hs2 _⟩

set_option maxRecDepth 100000 in
set_option maxHeartbeats 8000000 in
theorem means_good (RP : RefProg) (RU : RefUnit) (P R V K : Nat) (L : List In4) (ac : Option Addr) (cc : Nat) (nums : List Int) (na : Option Addr) (nc : Nat) (n m : Int) (w : World) (hp : RightP P R V L) (hK : 2 ≤ K) (hK' : K ≤ 16) (hH : HeldIns w ac L)
    (hA : HeldI w na nums) (hnv : ∀ i, i < nums.length → Rng (nth nums i)) (hnl : nums.length ≤ 9223372036854775807) (hn : Rng n) (hm : Rng m) (hT : Tab w) (hw0 : 0 < w.heap.size) :
    Calls Tryd.prog 7 #[.agg #[.int .i64 P, .int .i64 R, .int .i64 V, .slice ac L.length cc], .int .i64 K, .slice na nums.length nc, .int .i64 n, .int .i64 m] w fun e w' => e = .returned (.bool true) ∧ Below w.heap.size w w' := by
  have bn := pick_lt n 25000 (by decide)
  have bm := pick_lt m 2500 (by decide)
  obtain ⟨f, hfe⟩ : ∃ f : Nat, (f : Int) = pickI n 25000 := ⟨(pickI n 25000).toNat, by omega⟩
  obtain ⟨g, hge⟩ : ∃ g : Nat, (g : Int) = pickI m 2500 := ⟨(pickI m 2500).toNat, by omega⟩
  have hf : f < 25000 := by omega
  have hg : g < 2500 := by omega
  have HFE := hide hfe
  have HGE := hide hge
  clear hfe hge bn bm
  have KP := hide (fun (c n : Int) (w : World) (h : Rng c) (hn : 0 < n) => lawPick_any c n w h.1 h.2 hn)
  obtain ⟨w1, hw1, HP1, HL1, hz1⟩ := box_prog w P R V (.slice ac L.length cc)
  have HW := hide hw1
  have HLP1 : Hid (HeldIns w1 ac L ∧ HeldI w1 na nums ∧ Tab w1) := ⟨hH.below' (unhide HL1), hA.below (unhide HL1), hT.below (unhide HL1) hw0⟩
  have KM := hide (made_good P R V K L ac cc w1 hp hK hK' (unhide HLP1).1 (unhide HLP1).2.2 (by omega))
  have HNV := hide hnv
  clear hw1 hH hA hT hnv
  go_enter Tryd.func7, Tryd.ntmps7
  go_upto_region 1 with fail
  rw [← unhide HW]
  have p0 := (unhide HP1).c0
  have p1 := (unhide HP1).c1
  have p2 := (unhide HP1).c2
  have p3 := (unhide HP1).c3
  go_wp2_with fail
  refine (unhide KM).mono ?_
  rintro _ w2 ⟨uo, uc, rfl, hown2, hb2⟩
  unfold unitV
  clear p0 p1 p2 p3 KM
  obtain ⟨w3, hw3, HU3', HL3', hz3⟩ := box_unit w2 K (slotsB L P R K) P V (.slice uo (cmpC P R K L).length uc) (encT (cmpR P R V K L))
  have HLU3 : Hid (LabU w3 w2.heap.size P R V K L uo uc) := ⟨unhide HU3', (held_own hown2).below' (unhide HL3')⟩
  have hb13 : Below w1.heap.size w1 w3 := hb2.trans ((unhide HL3').mono hb2.size)
  have HP3 := hide ((hb13.block w.heap.size (by omega)).trans (unhide HP1))
  have HLP3 : Hid (HeldIns w3 ac L ∧ HeldI w3 na nums ∧ Tab w3) := ⟨(unhide HLP1).1.below' hb13, (unhide HLP1).2.1.below hb13, (unhide HLP1).2.2.below hb13 (by omega)⟩
  have HL3 : Hid (Below w.heap.size w w3) := (unhide HL1).trans (hb13.mono (by omega))
  have hsz3 := hb13.size
  have HW3 := hide hw3
  have hP4 : P ≤ 4 := by have := hp.p4; omega
  have q0 : w3.cell? ⟨w.heap.size, 0, none⟩ = some (.int .i64 P) := ProgB.c0 (unhide HP3)
  clear hw3 hb2 hb13 hown2 HLP1 HL1 HU3' HL3' HP1 HW
  go_upto_region 2 with fail
  rw [← unhide HW3]
  go_wp2_with fail
  refine (lawFit_any nums na nc P w3 (unhide HLP3).2.1 (unhide HNV) hnl hP4).mono ?_
  rintro _ w5 ⟨va, rfl, hown5, hb5⟩
  have hx : ArgsOk (fitTo nums P) P := fit_args
  obtain ⟨aa, ca, hve, hA5, _⟩ := own_heldI (xs := fitTo nums P) (by rw [fitTo_len]; exact hown5)
  subst hve
  obtain ⟨xs, hxs⟩ : ∃ xs, xs = fitTo nums P := ⟨_, rfl⟩
  rw [← hxs] at hx hA5
  rw [← hxs]
  have HLP7 : Hid (LabP w5 w.heap.size P R V L ac cc aa xs) := ⟨(hb5.block _ (by omega)).trans (unhide HP3), (unhide HLP3).1.below' hb5, hA5, (unhide HLP3).2.2.below hb5 (by omega), by have := hb5.size; omega⟩
  have HLU7 := hide ((unhide HLU3).below hb5)
  have HL7 : Hid (Below w.heap.size w w5) := (unhide HL3).trans (hb5.mono (unhide HL3).size)
  clear hown5 hA5 hb5 HP3 HLP3 HLU3 HL3 hxs q0 HNV HW3
  have KA := hide (fun w' (h : LabP w' w.heap.size P R V L ac cc aa xs) => ref_run RP hp hx ac aa cc ca f (by omega) w' h.code h.args)
  have KB := hide (fun w' (h : LabP w' w.heap.size P R V L ac cc aa xs) (h' : LabU w' w2.heap.size P R V K L uo uc) => ref_mach RU hp hK hK' hx uo aa uc ca (4 * f + 4) (by omega) w' h'.code h.args)
  have KC := hide (fun w' (h : LabP w' w.heap.size P R V L ac cc aa xs) (h' : LabU w' w2.heap.size P R V K L uo uc) => ref_mach RU hp hK hK' hx uo aa uc ca g (by omega) w' h'.code h.args)
  have KD := hide (fun w' (h : LabP w' w.heap.size P R V L ac cc aa xs) => ref_run RP hp hx ac aa cc ca (40 * g + 40) (by omega) w' h.code h.args)
  have hGA := (sim_fwd hp hK hK' none xs hx.len hx.val f).1.ok
  have hGC := (sim_bwd hp hK hK' none xs hx.len hx.val g).ok
  have hla := run_len L f (st0 xs)
  have hlb := run_len (cmpC P R K L) (4 * f + 4) (stU (cmpR P R V K L) none xs)
  have hlc := run_len (cmpC P R K L) g (stU (cmpR P R V K L) none xs)
  have hld := run_len L (40 * g + 40) (st0 xs)
  rw [show (st0 xs).stops.length = 0 from rfl] at hla hld
  rw [show (stU (cmpR P R V K L) none xs).stops.length = 0 from rfl] at hlb hlc
  obtain ⟨sa, hsa⟩ : ∃ sa, sa = runSt L f (st0 xs) := ⟨_, rfl⟩
  obtain ⟨sb, hsb⟩ : ∃ sb, sb = runSt (cmpC P R K L) (4 * f + 4) (stU (cmpR P R V K L) none xs) := ⟨_, rfl⟩
  obtain ⟨sc, hsc⟩ : ∃ sc, sc = runSt (cmpC P R K L) g (stU (cmpR P R V K L) none xs) := ⟨_, rfl⟩
  obtain ⟨sd, hsd⟩ : ∃ sd, sd = runSt L (40 * g + 40) (st0 xs) := ⟨_, rfl⟩
  rw [← hsa] at KA hGA hla
  rw [← hsb] at KB hGA hlb
  rw [← hsc] at KC hGC hlc
  rw [← hsd] at KD hGC hld
  have A1 := hide (fun w b1 b2 v1 v2 (h1 : ResOf w b1 v1 sa) (h2 : ResOf w b2 v2 sb) => along_any sa sb b1 b2 v1 v2 w h1 h2 hGA (by omega) (by omega))
  have A2 := hide (fun w b1 b2 v1 v2 (h1 : ResOf w b1 v1 sa) (h2 : ResOf w b2 v2 sb) => alike_any sa sb b1 b2 v1 v2 w h1 h2 hGA)
  have A3 := hide (fun w b1 b2 v1 v2 (h1 : ResOf w b1 v1 sc) (h2 : ResOf w b2 v2 sd) => along_any sc sd b1 b2 v1 v2 w h1 h2 hGC (by omega) (by omega))
  have A4 := hide (fun w b1 b2 v1 v2 (h1 : ResOf w b1 v1 sc) (h2 : ResOf w b2 v2 sd) => alike_any sc sd b1 b2 v1 v2 w h1 h2 hGC)
  rw [show ((4 * f + 4 : Nat) : Int) = 4 * (f : Int) + 4 by omega] at KB
  rw [show ((40 * g + 40 : Nat) : Int) = 40 * (g : Int) + 40 by omega] at KD
  have w4f : IntKind.i64.wrap (4 * (f : Int)) = 4 * (f : Int) := by rw [IntKind.wrap_i64]; omega
  have w4f' : IntKind.i64.wrap (4 * (f : Int) + 4) = 4 * (f : Int) + 4 := by rw [IntKind.wrap_i64]; omega
  have w40 : IntKind.i64.wrap (40 * (g : Int)) = 40 * (g : Int) := by rw [IntKind.wrap_i64]; omega
  have w40' : IntKind.i64.wrap (40 * (g : Int) + 40) = 40 * (g : Int) + 40 := by rw [IntKind.wrap_i64]; omega
  clear hsa hsb hsc hsd hGA hGC hla hlb hlc hld hp hx
  obtain ⟨S, hS⟩ : ∃ S, S = slotsB L P R K := ⟨_, rfl⟩
  obtain ⟨C, hC⟩ : ∃ C, C = cmpC P R K L := ⟨_, rfl⟩
  obtain ⟨T, hTe⟩ : ∃ T, T = encT (cmpR P R V K L) := ⟨_, rfl⟩
  have HSE := hide hS
  have HCE := hide hC
  have HTE := hide hTe
  rw [← hS, ← hC, ← hTe] at KB KC
  rw [← hS, ← hC, ← hTe]
  clear hS hC hTe
  go_wp2_with fail
  refine (unhide KP n 25000 _ hn (by decide)).mono ?_
  rintro _ w8 ⟨rfl, hw8⟩
  rw [hw8, ← unhide HFE]
  clear hw8
  have q0 := (unhide HLP7).prog.c0
  have q1 := (unhide HLP7).prog.c1
  have q2 := (unhide HLP7).prog.c2
  have q3 := (unhide HLP7).prog.c3
  go_wp2_with fail
  refine (unhide KA w5 (unhide HLP7)).mono ?_
  rintro _ w8 ⟨va, vp, rfl, hres, hbr⟩
  obtain ⟨o1, c1, o2, c2, rfl, w9, hw9, HA9, HB9, hz8⟩ := after_prog hres hbr
  have HW9 := hide hw9
  have HLP9 := hide ((unhide HLP7).below (unhide HB9))
  have HLU9 := hide ((unhide HLU7).below (unhide HB9))
  have HL9 : Hid (Below w.heap.size w w9) := (unhide HL7).trans ((unhide HB9).mono (unhide HL7).size)
  clear hw9 hres hbr q0 q1 q2 q3 HLP7 HLU7 HL7 HB9 KA
  go_upto_region 7 with fail
  rw [← unhide HW9]
  obtain ⟨u0, u1, u2, u3, u4, u5⟩ := labu_cells (unhide HLU9)
  rw [← unhide HSE] at u1
  rw [← unhide HCE] at u4
  rw [← unhide HTE] at u5
  go_wp2_with fail
  refine (unhide KB w9 (unhide HLP9) (unhide HLU9)).mono ?_
  rintro _ w10 hpost
  obtain ⟨o3, c3, o4, c4, rfl, w11, hw11, HB11, HL11', hz10⟩ := after_run hpost
  have HW11 := hide hw11
  have HLP11 := hide ((unhide HLP9).below (unhide HL11'))
  have HLU11 := hide ((unhide HLU9).below (unhide HL11'))
  have HA11 := hide ((unhide HA9).below (unhide HL11'))
  have HL11 : Hid (Below w.heap.size w w11) := (unhide HL9).trans ((unhide HL11').mono (unhide HL9).size)
  clear hw11 hpost u0 u1 u2 u3 u4 u5 HLP9 HLU9 HL9 HA9 HL11' KB HW9
  go_upto_region 8 with fail
  rw [← unhide HW11]
  have a0 := (unhide HA11).c0
  have a1 := (unhide HA11).c1
  have a2 := (unhide HA11).c2
  have a3 := (unhide HA11).c3
  have a4 := (unhide HA11).c4
  have b0 := (unhide HB11).c0
  have b1 := (unhide HB11).c1
  have b2 := (unhide HB11).c2
  have b3 := (unhide HB11).c3
  have b4 := (unhide HB11).c4
  go_wp2_with fail
  refine (unhide A1 w11 w5.heap.size w9.heap.size _ _ (unhide HA11).res (unhide HB11).res).mono ?_
  rintro _ w12 ⟨rfl, hb12⟩
  have HLP12 := hide ((unhide HLP11).below hb12)
  have HLU12 := hide ((unhide HLU11).below hb12)
  have HA12 := hide ((unhide HA11).below hb12)
  have HB12 := hide ((unhide HB11).below hb12)
  have HL12 : Hid (Below w.heap.size w w12) := (unhide HL11).trans (hb12.mono (unhide HL11).size)
  clear hb12 a0 a1 a2 a3 a4 b0 b1 b2 b3 b4 HLP11 HLU11 HL11 HA11 HB11 HW11 A1
  have a0 := (unhide HA12).c0
  have a1 := (unhide HA12).c1
  have a2 := (unhide HA12).c2
  have a3 := (unhide HA12).c3
  have a4 := (unhide HA12).c4
  have b0 := (unhide HB12).c0
  have b1 := (unhide HB12).c1
  have b2 := (unhide HB12).c2
  have b3 := (unhide HB12).c3
  have b4 := (unhide HB12).c4
  go_wp2_with fail
  refine (unhide A2 w12 w5.heap.size w9.heap.size _ _ (unhide HA12).res (unhide HB12).res).mono ?_
  rintro _ w13 ⟨bt, rfl, hbt, hb13⟩
  have HLP13 := hide ((unhide HLP12).below hb13)
  have HLU13 := hide ((unhide HLU12).below hb13)
  have HA13 := hide ((unhide HA12).below hb13)
  have HL13 : Hid (Below w.heap.size w w13) := (unhide HL12).trans (hb13.mono (unhide HL12).size)
  clear hb13 a0 a1 a2 a3 a4 b0 b1 b2 b3 b4 HLP12 HLU12 HL12 HA12 HB12 A2
  have a0 := (unhide HA13).c0
  go_upto_region 12 with fail
  go_cut [78] from 72 to 77 (fun v wc => v = .bool false ∧ wc = w13)
  case first =>
    by_cases hk : sa.kind = 2
    · have hk' : (sa.kind != 2) = false := by rw [bne_eq_false_iff_eq]; exact hk
      have HK := hide hk
      clear hk
      go_wp2_with fail
      go_meet
      case rel => exact ⟨rfl, rfl⟩
    · have hk' : (sa.kind != 2) = true := by rw [bne_iff_ne]; exact hk
      have hb := hbt hk
      subst hb
      have HK := hide hk
      clear hk
      go_wp2_with fail
      go_meet
      case rel => exact ⟨rfl, rfl⟩
  case rest =>
  obtain ⟨rfl, hwc⟩ := hcut
  rw [hwc]
  clear hwc hbt a0 HA13
  go_wp2_with fail
  refine (unhide KP m 2500 _ hm (by decide)).mono ?_
  rintro _ w14 ⟨rfl, hw14⟩
  rw [hw14, ← unhide HGE]
  clear hw14
  obtain ⟨u0, u1, u2, u3, u4, u5⟩ := labu_cells (unhide HLU13)
  rw [← unhide HSE] at u1
  rw [← unhide HCE] at u4
  rw [← unhide HTE] at u5
  go_wp2_with fail
  refine (unhide KC w13 (unhide HLP13) (unhide HLU13)).mono ?_
  rintro _ w14 hpost
  obtain ⟨o5, c5, o6, c6, rfl, w15, hw15, HC15, HL15', hz14⟩ := after_run hpost
  have HW15 := hide hw15
  have HLP15 := hide ((unhide HLP13).below (unhide HL15'))
  have HL15 : Hid (Below w.heap.size w w15) := (unhide HL13).trans ((unhide HL15').mono (unhide HL13).size)
  clear hw15 hpost u0 u1 u2 u3 u4 u5 HLP13 HLU13 HL13 HL15' KC
  go_upto_region 16 with fail
  rw [← unhide HW15]
  have q0 := (unhide HLP15).prog.c0
  have q1 := (unhide HLP15).prog.c1
  have q2 := (unhide HLP15).prog.c2
  have q3 := (unhide HLP15).prog.c3
  go_wp2_with fail
  refine (unhide KD w15 (unhide HLP15)).mono ?_
  rintro _ w16 ⟨va2, vp2, rfl, hres, hbr⟩
  obtain ⟨o7, c7, o8, c8, rfl, w17, hw17, HD17, HL17', hz16⟩ := after_prog hres hbr
  have HW17 := hide hw17
  have HC17 := hide ((unhide HC15).below (unhide HL17'))
  have HL17 : Hid (Below w.heap.size w w17) := (unhide HL15).trans ((unhide HL17').mono (unhide HL15).size)
  clear hw17 hres hbr q0 q1 q2 q3 HLP15 HL15 HC15 HL17' KD HW15
  go_upto_region 17 with fail
  rw [← unhide HW17]
  have a0 := (unhide HC17).c0
  have a1 := (unhide HC17).c1
  have a2 := (unhide HC17).c2
  have a3 := (unhide HC17).c3
  have a4 := (unhide HC17).c4
  have b0 := (unhide HD17).c0
  have b1 := (unhide HD17).c1
  have b2 := (unhide HD17).c2
  have b3 := (unhide HD17).c3
  have b4 := (unhide HD17).c4
  go_wp2_with fail
  refine (unhide A3 w17 w13.heap.size w15.heap.size _ _ (unhide HC17).res (unhide HD17).res).mono ?_
  rintro _ w18 ⟨rfl, hb18⟩
  have HC18 := hide ((unhide HC17).below hb18)
  have HD18 := hide ((unhide HD17).below hb18)
  have HL18 : Hid (Below w.heap.size w w18) := (unhide HL17).trans (hb18.mono (unhide HL17).size)
  clear hb18 a0 a1 a2 a3 a4 b0 b1 b2 b3 b4 HL17 HC17 HD17 HW17 A3
  have a0 := (unhide HC18).c0
  have a1 := (unhide HC18).c1
  have a2 := (unhide HC18).c2
  have a3 := (unhide HC18).c3
  have a4 := (unhide HC18).c4
  have b0 := (unhide HD18).c0
  have b1 := (unhide HD18).c1
  have b2 := (unhide HD18).c2
  have b3 := (unhide HD18).c3
  have b4 := (unhide HD18).c4
  go_wp2_with fail
  refine (unhide A4 w18 w13.heap.size w15.heap.size _ _ (unhide HC18).res (unhide HD18).res).mono ?_
  rintro _ w19 ⟨bt2, rfl, hbt2, hb19⟩
  have HC19 := hide ((unhide HC18).below hb19)
  have HL19 : Hid (Below w.heap.size w w19) := (unhide HL18).trans (hb19.mono (unhide HL18).size)
  clear hb19 a0 a1 a2 a3 a4 b0 b1 b2 b3 b4 HL18 HC18 HD18
  have a0 := (unhide HC19).c0
  by_cases hk : sc.kind = 2
  · have hk' : (sc.kind == 2) = true := by rw [beq_iff_eq]; exact hk
    have HK := hide hk
    clear hk hbt2
    go_wp2_with fail
    go_returns
    exact ⟨rfl, unhide HL19⟩
  · have hk' : (sc.kind == 2) = false := by rw [beq_eq_false_iff_ne]; exact hk
    have hb := hbt2 hk
    subst hb
    have HK := hide hk
    clear hk hbt2
    go_wp2_with fail
    go_returns
    exact ⟨rfl, unhide HL19⟩
/-- Every program. -/
theorem means_walk (RP : RefProg) (RU : RefUnit) (P0 R0 V0 : Int) (L : List In4) (ac : Option Addr) (cc : Nat) (k : Int) (nums : List Int) (na : Option Addr) (nc : Nat) (n m : Int) (w : World) (hH : HeldIns w ac L) (hl : L.length ≤ 9223372036854775807)
    (hA : HeldI w na nums) (hnv : ∀ i, i < nums.length → Rng (nth nums i)) (hnl : nums.length ≤ 9223372036854775807) (hn : Rng n) (hm : Rng m) (hT : Tab w) (hw0 : 0 < w.heap.size) :
    Calls Tryd.prog 7 #[.agg #[.int .i64 P0, .int .i64 R0, .int .i64 V0, .slice ac L.length cc], .int .i64 k, .slice na nums.length nc, .int .i64 n, .int .i64 m] w fun e w' => e = .returned (.bool true) ∧ Below w.heap.size w w' := by
  by_cases hE : cmpE P0 R0 V0 k L = 0
  case neg => exact means_bad P0 R0 V0 L ac cc k nums na nc n m w hH hl hT hw0 hE
  unfold cmpE at hE
  by_cases h1 : (progE P0 R0 V0 L).1 = 0
  case neg => rw [if_pos h1] at hE; exact absurd hE h1
  rw [if_neg (fun h => h h1)] at hE
  by_cases h2 : k < 2 ∨ 16 < k
  case pos => rw [if_pos h2] at hE; cases hE
  have hp := rightP_of P0 R0 V0 L h1
  obtain ⟨P, rfl⟩ : ∃ P : Nat, P0 = P := ⟨P0.toNat, by have := hp.p0; omega⟩
  obtain ⟨R, rfl⟩ : ∃ R : Nat, R0 = R := ⟨R0.toNat, by have := hp.r1; omega⟩
  obtain ⟨V, rfl⟩ : ∃ V : Nat, V0 = V := ⟨V0.toNat, by have := hp.v0; omega⟩
  obtain ⟨K, rfl⟩ : ∃ K : Nat, k = K := ⟨k.toNat, by omega⟩
  exact means_good RP RU P R V K L ac cc nums na nc n m w hp (by omega) (by omega) hH hA hnv hnl hn hm hT hw0
end Go.Proofs.YtoepcplbpochpaaDoor
