/-
  What the document's own run of a unit answers (lodgeref.RunUnit): the same error, and the same result, in memory of its own.
-/
import Derived.Test.YtoepcplbpochpaaDoorUnit24
import Derived.Test.YtoepcplbpochpaaDoorUnit29
import Derived.Test.YtoepcplbpochpaaDoorUnit30
import Derived.Test.YtoepcplbpochpaaDoorUnit31
import Derived.Test.YtoepcplbpochpaaDoorUnit33
import Derived.Deep.CutRange

namespace Go.Proofs.YtoepcplbpochpaaDoor
open Go.RowKit

theorem mom_of_blocksU {w : World} {M G H K S : Nat} {R : List Rg} {xs : List Int} {cg ch : Array Value} (hM : w.heap[M]? = some (.cells #[.int .i64 0, .slice (some ⟨G, 0, none⟩) K K, .slice (some ⟨H, 0, none⟩) S S, .slice none 0 0, .int .i64 (-1), .int .i64 0] 90 (0, 0)))
    (hG : w.heap[G]? = some (.cells cg 3 (0, 0))) (hH : w.heap[H]? = some (.cells ch 3 (0, 0))) (h1 : ∀ i, i < K → cg[i]? = some (.int .i64 0)) (h2 : ∀ i, i < S → ch[i]? = some (.int .i64 (nth xs i))) (n1 : M ≠ G) (n2 : M ≠ H) (n3 : G ≠ H) : MomB w M G H K S (stU R none xs) :=
  ⟨(cell_of_row w M 0 _ 90 (0, 0) hM).trans rfl, (cell_of_row w M 1 _ 90 (0, 0) hM).trans rfl, (cell_of_row w M 2 _ 90 (0, 0) hM).trans rfl, (cell_of_row w M 4 _ 90 (0, 0) hM).trans rfl, (cell_of_row w M 5 _ 90 (0, 0) hM).trans rfl,
   fun i hi => (cell_of_row w G i _ 3 (0, 0) hG).trans (h1 i hi), fun i hi => (cell_of_row w H i _ 3 (0, 0) hH).trans (h2 i hi), fun o => by simp [World.frozen?, hM], fun o => by simp [World.frozen?, hG], fun o => by simp [World.frozen?, hH],
   (Array.getElem?_eq_some_iff.1 hG).1, (Array.getElem?_eq_some_iff.1 hH).1, n1, n2, n3, .inl rfl⟩

/-- What is told of the first n variables. -/
def tells (s : St) (n : Nat) : List Int := (List.range n).map s.tell
theorem tells_len (s : St) (n : Nat) : (tells s n).length = n := by unfold tells; rw [List.length_map, List.length_range]
theorem tells_succ (s : St) (n : Nat) : tells s (n + 1) = tells s n ++ [s.tell n] := by unfold tells; rw [List.range_succ, List.map_append]; rfl
theorem tells_nth (s : St) {n i : Nat} (h : i < n) : nth (tells s n) i = s.tell i := by
  unfold nth tells
  rw [List.getD_eq_getElem?_getD, List.getElem?_map, List.getElem?_range h]; rfl

set_option maxRecDepth 100000 in
set_option maxHeartbeats 8000000 in
theorem runUnit_any (K S P V : Int) (L : List In4) (T : ByteArray) (ac aa : Option Addr) (cc ca : Nat) (xs : List Int) (fuel : Int) (w : World) (hH : HeldIns w ac L) (hA : HeldI w aa xs) (hn : L.length ≤ 9223372036854775807) (hl : xs.length ≤ 9223372036854775807) (hs : T.size ≤ maxLen) :
    Calls Tryd.prog 24 #[.agg #[.int .i64 K, .int .i64 S, .int .i64 P, .int .i64 V, .slice ac L.length cc, .string T], .slice aa xs.length ca, .int .i64 fuel] w (RunPost w (runU K S P V L T (tabOf T) xs fuel)) := by
  obtain ⟨e1, he1⟩ : ∃ e, e = (unitE K S P V L T).1 := ⟨_, rfl⟩
  obtain ⟨e2, he2⟩ : ∃ e, e = (unitE K S P V L T).2 := ⟨_, rfl⟩
  obtain ⟨fb, hfb⟩ : ∃ e, e = fitsB xs P := ⟨_, rfl⟩
  have KC := hide (fun w (hH : HeldIns w ac L) => checkUnit_any K S P V L T ac cc w hH hn hs)
  have KS := hide (fun w (hH : HeldI w aa xs) => fits_any xs P aa ca w hH hl)
  have hsT := hs
  rw [← he1, ← he2] at KC
  rw [← hfb] at KS
  have HE1 := hide he1
  have HFB := hide hfb
  have HH := hide hH
  have HA := hide hA
  clear he1 he2 hfb hH hA hs
  go_enter Tryd.func24, Tryd.ntmps24
  go_wp2_with fail
  obtain ⟨w1, hw1⟩ : ∃ w1, w1 = (w.alloc (.cells #[.int .i64 K, .int .i64 S, .int .i64 P, .int .i64 V, .slice ac L.length cc, .string T] 26)).alloc (.cells #[.int .i64 0, .int .i64 0, .int .i64 0, .slice none 0 0, .slice none 0 0] 37) := ⟨_, rfl⟩
  rw [← hw1]
  have hB1 : Below w.heap.size w w1 := by rw [hw1]; exact ((Below.refl _ _).alloc (Nat.le_refl _) _).alloc (by simp) _
  have hz1 : w1.heap.size = w.heap.size + 2 := by rw [hw1]; simp
  have p : ∀ i, w1.cell? ⟨w.heap.size, i, none⟩ = #[Value.int .i64 K, .int .i64 S, .int .i64 P, .int .i64 V, .slice ac L.length cc, .string T][i]? := fun i => by
    rw [hw1, World.cell?_alloc_past (hn := by simp), World.cell?_alloc_at (hn := rfl)]
  have h6 : At6 w1 w.heap.size K S P V (.slice ac L.length cc) T := ⟨(p 0).trans rfl, (p 1).trans rfl, (p 2).trans rfl, (p 3).trans rfl, (p 4).trans rfl, (p 5).trans rfl⟩
  have hr : w1.heap[w.heap.size + 1]? = some (.cells #[.int .i64 0, .int .i64 0, .int .i64 0, .slice none 0 0, .slice none 0 0] 37 (0, 0)) := by
    have hh := heap_alloc_new (w.alloc (.cells #[.int .i64 K, .int .i64 S, .int .i64 P, .int .i64 V, .slice ac L.length cc, .string T] 26)) (.cells #[.int .i64 0, .int .i64 0, .int .i64 0, .slice none 0 0, .slice none 0 0] 37)
    rw [show (w.alloc (.cells #[.int .i64 K, .int .i64 S, .int .i64 P, .int .i64 V, .slice ac L.length cc, .string T] 26)).heap.size = w.heap.size + 1 by simp] at hh
    rw [hw1]; exact hh
  clear hw1 p
  refine (unhide KC w1 ((unhide HH).below hB1)).mono ?_
  rintro e w2 ⟨rfl, hb2⟩
  have hB2 : Below w.heap.size w w2 := hB1.trans (hb2.mono (by omega))
  have h62 := h6.below hb2 (show w.heap.size < w1.heap.size by omega)
  have H62 := hide h62
  obtain ⟨q0, q1, q2, q3, q4, q5⟩ := h62
  have hr2 := (hb2.block (w.heap.size + 1) (by omega)).trans hr
  have hz2 : w.heap.size + 2 ≤ w2.heap.size := by have := hb2.size; omega
  have HR2 := hide hr2
  have HB2 := hide hB2
  have r0 : w2.cell? ⟨w.heap.size + 1, 0, none⟩ = some (.int .i64 0) := (cell_of_row w2 _ 0 _ 37 (0, 0) hr2).trans rfl
  have r1 : w2.cell? ⟨w.heap.size + 1, 1, none⟩ = some (.int .i64 0) := (cell_of_row w2 _ 1 _ 37 (0, 0) hr2).trans rfl
  have r2 : w2.cell? ⟨w.heap.size + 1, 2, none⟩ = some (.int .i64 0) := (cell_of_row w2 _ 2 _ 37 (0, 0) hr2).trans rfl
  have r3 : w2.cell? ⟨w.heap.size + 1, 3, none⟩ = some (.slice none 0 0) := (cell_of_row w2 _ 3 _ 37 (0, 0) hr2).trans rfl
  have r4 : w2.cell? ⟨w.heap.size + 1, 4, none⟩ = some (.slice none 0 0) := (cell_of_row w2 _ 4 _ 37 (0, 0) hr2).trans rfl
  have rf : ∀ o, w2.frozen? ⟨w.heap.size + 1, o, none⟩ = false := fun o => by simp [World.frozen?, hr2]
  clear hb2 h6 hr hr2 hB1 hz1 hB2
  by_cases h1 : e1 = 0
  case neg =>
    have h1' : (e1 != 0) = true := by rw [bne_iff_ne]; exact h1
    have he := hide (show runU K S P V L T (tabOf T) xs fuel = (e1, zst) by unfold runU; rw [if_pos (by rw [← unhide HE1]; exact h1), ← unhide HE1])
    go_wp2_with fail
    refine bodyPost_ret (results_res rfl _ _ (w.heap.size + 1) _ rfl (set5 (unhide HR2) _ _ _ _ _) rfl) rfl ?_
    rw [unhide he]
    exact ⟨_, rfl, ResOf.zero _ _, below5 (unhide HB2) (Nat.le_succ _) _ _ _ _ _⟩
  subst h1
  obtain ⟨R, htR, hpR⟩ := rightU_of K S P V L T (unhide HE1).symm
  have HP := hide hpR
  have HTR := hide htR
  have htE := tabOf_eq htR
  clear htR hpR
  go_wp2_with fail
  refine (unhide KS w2 ((unhide HA).below (unhide HB2))).mono ?_
  rintro e w3 ⟨rfl, hw⟩
  rw [hw]
  clear hw w3
  by_cases h3 : startE xs P fuel = 0
  case neg =>
    have he := hide (show runU K S P V L T (tabOf T) xs fuel = (startE xs P fuel, zst) by unfold runU; rw [if_neg (by rw [← unhide HE1]; exact fun h => h rfl), if_pos h3])
    have hcase : fb = false ∧ startE xs P fuel = 11 ∨ (fb = true ∧ fuel < 0 ∧ startE xs P fuel = 12) ∨ (fb = true ∧ 0 ≤ fuel ∧ 100000 < fuel ∧ startE xs P fuel = 12) := by
      cases hb : fb with
      | false => exact .inl ⟨rfl, by unfold startE; rw [← unhide HFB, hb, if_pos rfl]⟩
      | true =>
        have h12 : (fuel < 0 ∨ 100000 < fuel) → startE xs P fuel = 12 := fun h => by unfold startE; rw [← unhide HFB, hb, if_neg (by decide), if_pos h]
        have h00 : ¬ (fuel < 0 ∨ 100000 < fuel) → startE xs P fuel = 0 := fun h => by unfold startE; rw [← unhide HFB, hb, if_neg (by decide), if_neg h]
        by_cases hf : fuel < 0 ∨ 100000 < fuel
        · right
          by_cases hf0 : fuel < 0
          · exact .inl ⟨rfl, hf0, h12 hf⟩
          · exact .inr ⟨rfl, by omega, by omega, h12 hf⟩
        · exact absurd (h00 hf) h3
    clear h3
    rcases hcase with ⟨rfl, hs⟩ | ⟨rfl, hf, hs⟩ | ⟨rfl, hf, hf', hs⟩
    all_goals
      rw [hs] at he
      clear hs
      go_wp2_with fail
      refine bodyPost_ret (results_res rfl _ _ (w.heap.size + 1) _ rfl (set5 (unhide HR2) _ _ _ _ _) rfl) rfl ?_
      rw [unhide he]
      exact ⟨_, rfl, ResOf.zero _ _, below5 (unhide HB2) (Nat.le_succ _) _ _ _ _ _⟩
  have hsr := start_right h3
  have HK := hide (stU_ok (unhide HP) none h3)
  have he := hide (show runU K S P V L T (tabOf T) xs fuel = (0, runSt L fuel.toNat (stU R none xs)) by unfold runU; rw [if_neg (by rw [← unhide HE1]; exact fun h => h rfl), if_neg (fun h => h h3), htE])
  obtain rfl : fb = true := by
    cases hb : fb with
    | true => rfl
    | false => exfalso; unfold startE at h3; rw [← unhide HFB, hb, if_pos rfl] at h3; cases h3
  obtain ⟨kn, rfl⟩ : ∃ kn : Nat, K = kn := ⟨K.toNat, by have := (unhide HP).k2; omega⟩
  obtain ⟨sn, rfl⟩ : ∃ sn : Nat, S = sn := ⟨S.toNat, by have := (unhide HP).s0; omega⟩
  have hkn : kn ≤ 16 := by have := (unhide HP).k16; omega
  have hsn : sn ≤ 16 := by have := (unhide HP).s16; omega
  have hxs : xs.length ≤ sn := by have := (unhide HP).ps; have := hsr.1; omega
  have f0 := hsr.2.2.1
  have f1 := hsr.2.2.2
  have K1 := hide (fun w => filled_any kn 0 w (by omega))
  have K2 := hide (fun w => filled_any sn 0 w (by omega))
  have KD := hide (fun w => refDecode_yes hsT (unhide HTR) w)
  clear hsr h3 htE
  go_wp2_with fail
  refine (unhide KD w2).mono ?_
  rintro e wd ⟨tv, rfl, hod, hbd⟩
  obtain ⟨ta, tc, rfl, hHd, hlR, _, _⟩ := own_held hod
  have hlR' : R.length ≤ 1000 := by have := (unhide HP).tab; unfold isTab at this; simp at this; omega
  have HBd : Hid (Below w.heap.size w wd) := (unhide HB2).trans (hbd.mono (by omega))
  have H6d := (unhide H62).below hbd (show w.heap.size < w2.heap.size by omega)
  have HRd := hide ((hbd.block (w.heap.size + 1) (by omega)).trans (unhide HR2))
  have HHd := hide hHd
  have hzd : w.heap.size + 2 ≤ wd.heap.size := by have := hbd.size; omega
  obtain ⟨d0, d1, _, _, d4, _⟩ := H6d
  clear hod hbd hHd q0 q1 q2 q3 q4 q5 H62 r0 r1 r2 r3 r4 rf HR2 HB2 hz2 hlR
  go_wp2_with fail
  go_region_held3 (fun w' => w'.cell? ⟨w.heap.size, 0, none⟩ = some (.int .i64 (kn : Int)) ∧ w'.cell? ⟨w.heap.size, 1, none⟩ = some (.int .i64 (sn : Int))) (first | (simp [*]; done) | (constructor <;> assumption) | (constructor <;> (rw [World.cell?_alloc_past (hn := by omega)]; assumption)))
    (first
      | (go_at_call 52; revert K1; intro K1; refine (unhide K1 _).mono ?_; rintro e w3 ⟨rfl, hc3, hz3', hb3⟩; have hz3 : w3.heap.size = wd.heap.size + 1 := hz3'; have HC3 := hide hc3; have s1 := (hb3.cell (p := ⟨w.heap.size, 0, none⟩) (show w.heap.size < wd.heap.size by omega)).trans d0; have s2 := (hb3.cell (p := ⟨w.heap.size, 1, none⟩) (show w.heap.size < wd.heap.size by omega)).trans d1; have HB3 := hide hb3; clear hc3 hb3 hz3' K1)
      | (go_at_call 52; refine (unhide K2 _).mono ?_; rintro e w4 ⟨rfl, hc4, hz4', hb4⟩; have hz4 : w4.heap.size = w3.heap.size + 1 := hz4'; have HC4 := hide hc4; have t1 := (hb4.cell (p := ⟨w.heap.size, 0, none⟩) (show w.heap.size < w3.heap.size by omega)).trans s1; have t2 := (hb4.cell (p := ⟨w.heap.size, 1, none⟩) (show w.heap.size < w3.heap.size by omega)).trans s2; have HB4 := hide hb4; clear hc4 hb4 hz4'))
  obtain ⟨w5, hw5⟩ : ∃ w5, w5 = w4.alloc (.cells #[.int .i64 0, .slice (some ⟨wd.heap.size, 0, none⟩) kn kn, .slice (some ⟨wd.heap.size + 1, 0, none⟩) sn sn, .slice none 0 0, .int .i64 (-1), .int .i64 0] 90) := ⟨_, rfl⟩
  rw [← hw5]
  obtain ⟨cg, hg, hgn, hgc⟩ := unhide HC3
  obtain ⟨ch, hh, hhn, hhc⟩ := unhide HC4
  have hM5 : w5.heap[wd.heap.size + 1 + 1]? = some (.cells #[.int .i64 0, .slice (some ⟨wd.heap.size, 0, none⟩) kn kn, .slice (some ⟨wd.heap.size + 1, 0, none⟩) sn sn, .slice none 0 0, .int .i64 (-1), .int .i64 0] 90 (0, 0)) := by
    rw [hw5, show wd.heap.size + 1 + 1 = w4.heap.size by omega]; exact heap_alloc_new _ _
  have hG5 : w5.heap[wd.heap.size]? = some (.cells cg 3 (0, 0)) := by
    rw [hw5]; exact (Below.heap_alloc _ _ _ (by omega)).trans (((unhide HB4).block _ (by omega)).trans hg)
  have hH5 : w5.heap[wd.heap.size + 1]? = some (.cells ch 3 (0, 0)) := by
    rw [hw5, show wd.heap.size + 1 = w3.heap.size by omega]; exact (Below.heap_alloc _ _ _ (by omega)).trans hh
  have HB5 : Hid (Below wd.heap.size wd w5) := by
    rw [hw5]; exact (((Below.refl wd.heap.size wd).drew.trans (unhide HB3)).trans ((unhide HB4).mono (by omega))).alloc (by omega) _
  have hz5 : w5.heap.size = wd.heap.size + 1 + 1 + 1 := by rw [hw5]; simp; omega
  obtain ⟨w6, hcp, hH6, hK6⟩ := copy_keep (P := Tryd.prog) 32 32 3 1 Tryd.underlying32 Tryd.size3 aa (wd.heap.size + 1) sn sn xs.length ca hxs ch 3 hH5 (intCells xs) (by rw [intCells_len, Nat.mul_one]) (held_ints (((unhide HA).below (unhide HBd)).below (unhide HB5))) (by rw [intCells_len, hhn]; exact hxs) (by intro v hv; unfold intCells at hv; obtain ⟨x, _, rfl⟩ := List.mem_map.1 hv; rfl)
  have hM6 := (hK6.block (wd.heap.size + 1 + 1) (by omega) (by omega)).trans hM5
  have hG6 := (hK6.block wd.heap.size (by omega) (by omega)).trans hG5
  have HMom : Hid (MomB w6 (wd.heap.size + 1 + 1) wd.heap.size (wd.heap.size + 1) kn sn (stU R none xs)) := mom_of_blocksU hM6 hG6 hH6 hgc (copied_regs hhc) (by omega) (by omega) (by omega)
  have HB6 : Hid (Below wd.heap.size wd w6) := (unhide HB5).trans (hK6.below (by omega) (fun k hk e => by omega))
  have hz6 : wd.heap.size + 1 + 1 + 1 ≤ w6.heap.size := by have := hK6.size; omega
  have m1 : w5.cell? ⟨wd.heap.size + 1 + 1, 2, none⟩ = some (.slice (some ⟨wd.heap.size + 1, 0, none⟩) sn sn) := (cell_of_row w5 _ 2 _ 90 (0, 0) hM5).trans rfl
  clear hw5 hg hgn hgc hh hhn hhc hM5 hG5 hH5 hG6 hM6 hH6 hK6 HC3 HC4 HB3 HB4 hz3 hz4 s1 s2 t1 t2 d0 d1
  go_wp2_with fail
  obtain ⟨w7, hw7⟩ : ∃ w7, w7 = w6.alloc (.cells #[.int .i64 2, .int .i64 0, .int .i64 0, .slice none 0 0, .slice none 0 0] 37) := ⟨_, rfl⟩
  rw [← hw7]
  have HI7 : Hid (RunInv w7 (wd.heap.size + 1 + 1) wd.heap.size (wd.heap.size + 1) kn sn w6.heap.size (stU R none xs) [] [] 0 (.slice none 0 0) (.slice none 0 0) (.slice none 0 0) 0) := by
    have hQ : w7.heap[w6.heap.size]? = some (.cells #[.int .i64 2, .int .i64 0, .int .i64 0, .slice none 0 0, .slice none 0 0] 37 (0, 0)) := by rw [hw7]; exact heap_alloc_new _ _
    have hm : MomB w7 (wd.heap.size + 1 + 1) wd.heap.size (wd.heap.size + 1) kn sn (stU R none xs) := (unhide HMom).keep (S := fun _ => False) (by rw [hw7]; exact (Keep.refl _ _).alloc _) (fun h => h) (fun h => h) (fun h => h)
    exact ⟨hm, (cell_of_row w7 _ 0 _ 37 (0, 0) hQ).trans rfl, (cell_of_row w7 _ 1 _ 37 (0, 0) hQ).trans rfl, (cell_of_row w7 _ 2 _ 37 (0, 0) hQ).trans rfl, (cell_of_row w7 _ 3 _ 37 (0, 0) hQ).trans rfl, (cell_of_row w7 _ 4 _ 37 (0, 0) hQ).trans rfl, fun o => by simp [World.frozen?, hQ], World.ownsRow_nil _ _ _ _, World.ownsRow_nil _ _ _ _, ⟨0, [], World.ownsRow_nil _ _ _ _, Nat.le_refl _⟩, fun g hg => (by cases hg), by omega, by omega, by omega⟩
  have HB7 : Hid (Below wd.heap.size wd w7) := by rw [hw7]; exact (unhide HB6).alloc (by omega) _
  obtain ⟨b, off, rfl, hb, HL⟩ : ∃ b off, ac = some ⟨b, off, none⟩ ∧ b < w.heap.size ∧ Hid (LieI w b off L) := by
    rcases unhide HH with h | h
    · have := (unhide HP).n1; rw [h] at this; exact absurd this (by decide)
    · exact h
  have hl1 := (unhide HP).n1
  have hl164 := (unhide HP).n164
  clear hw7 HMom hcp HB6 HB5 m1 K2 KC KS KD
  go_loopw [15] (fun i wr => ∃ (s : St) (vo vs : Value), i = .int .i64 (s.steps : Int) ∧ Hid (RunInv wr (wd.heap.size + 1 + 1) wd.heap.size (wd.heap.size + 1) kn sn w6.heap.size s s.outs s.stops s.steps vo vs (.slice none 0 0) s.steps) ∧ Hid (runSt L fuel.toNat (stU R none xs) = runSt L (fuel.toNat - s.steps) s) ∧ s.steps ≤ fuel.toNat ∧ Hid (StOkU L s) ∧ Hid (s.env = unitEnv R none) ∧ Hid (0 ≤ s.kind) ∧ Hid (Below wd.heap.size wd wr)) (fun i _ => fuel.toNat - (intOf i).toNat)
  case atStart => exact ⟨stU R none xs, _, _, rfl, unhide HI7, rfl, Nat.zero_le _, unhide HK, rfl, (by show (0 : Int) ≤ 2; decide), unhide HB7⟩
  case round =>
    obtain ⟨s, vo, vs, rfl, HI, HC, hst, HO, HEV, HKD, HB⟩ := hrel
    have hsz : wd.heap.size ≤ wr.heap.size := (unhide HB).size
    have hQr : w6.heap.size < wr.heap.size := (unhide HI).iq
    have c4 : wr.cell? ⟨wd.heap.size + 1 + 1, 4, none⟩ = some (.int .i64 (endI s)) := (unhide HI).mom.en
    have c0 : wr.cell? ⟨wd.heap.size + 1 + 1, 0, none⟩ = some (.int .i64 (s.at_ : Int)) := (unhide HI).mom.at_
    have u4 := ((unhide HB).cell (p := ⟨w.heap.size, 4, none⟩) (show w.heap.size < wd.heap.size by omega)).trans d4
    have HBr : Hid (Below w.heap.size w wr) := (unhide HBd).trans ((unhide HB).mono (by omega))
    by_cases hgo : s.on = true ∧ s.steps < fuel.toNat
    · obtain ⟨hon, hlt⟩ := hgo
      have hlt' : (s.steps : Int) < fuel := by omega
      have hat := (unhide HO).at_ hon
      have hat' : (s.at_ : Int) < (L.length : Int) := by omega
      have hat0 : (0 : Int) ≤ (s.at_ : Int) := by omega
      obtain ⟨x, hx⟩ : ∃ x, x = inAt L s.at_ := ⟨_, rfl⟩
      have hAx := (unhide HL s.at_ hat).below (unhide HBr) hb
      rw [← hx] at hAx
      obtain ⟨x0, x1, x2, x3⟩ := hAx
      have hso := stepU_ok (unhide HP) (unhide HO) hon
      have HXR : Hid (Right (kn : Int) (L.length : Int) (sn : Int) x) := by rw [hx]; exact (unhide HP).ins s.at_ hat
      have hn := hide (show runSt L fuel.toNat (stU R none xs) = runSt L (fuel.toNat - (stepSt x s).steps) (stepSt x s) by
        rw [unhide HC, run_on (by omega) hon, hx, hso.2.1, Nat.sub_sub])
      rw [← hx] at hso
      have HSO := hide hso
      have hen : endI s = -1 := by unfold endI; rw [hon]; rfl
      rw [hen] at c4
      have HEN := hide hen
      have KP := hide (fun w (h : MomB w (wd.heap.size + 1 + 1) wd.heap.size (wd.heap.size + 1) kn sn s) => pass_any _ _ _ kn sn s x (L.length : Int) w h (unhide HXR) (unhide HO).regs (by omega) ((unhide HO).kind hon).2 (.inr ⟨by rw [unhide HEV]; rfl, by rw [hx]; exact (unhide HP).low s.at_ hat⟩))
      have hHr : w.heap.size < wr.heap.size := by omega
      have hMr : wd.heap.size + 1 + 1 < wr.heap.size := by omega
      have hbr : b < wr.heap.size := by omega
      have a1 : ∀ (o : Obj) (i : Nat), (wr.alloc o).cell? ⟨w.heap.size, i, none⟩ = wr.cell? ⟨w.heap.size, i, none⟩ := fun o i => World.cell?_alloc_past (hn := hHr) ..
      have a2 : ∀ (o : Obj) (i : Nat), (wr.alloc o).cell? ⟨wd.heap.size + 1 + 1, i, none⟩ = wr.cell? ⟨wd.heap.size + 1 + 1, i, none⟩ := fun o i => World.cell?_alloc_past (hn := hMr) ..
      have a3 : ∀ (o : Obj) (i : Nat), (wr.alloc o).cell? ⟨b, i, none⟩ = wr.cell? ⟨b, i, none⟩ := fun o i => World.cell?_alloc_past (hn := hbr) ..
      clear hso hx hon hen
      obtain ⟨op, d, a, bb⟩ := x
      simp only at x0 x1 x2 x3
      go_wp2_with fail
      go_region_held3 (fun w' => w'.cell? ⟨w.heap.size, 4, none⟩ = some (.slice (some ⟨b, off, none⟩) L.length cc) ∧ w'.cell? ⟨wd.heap.size + 1 + 1, 0, none⟩ = some (.int .i64 (s.at_ : Int)) ∧ w'.cell? ⟨b, off + s.at_ * 4, none⟩ = some (.int .i64 op) ∧ w'.cell? ⟨b, off + s.at_ * 4 + 1, none⟩ = some (.int .i64 d) ∧ w'.cell? ⟨b, off + s.at_ * 4 + 2, none⟩ = some (.int .i64 a) ∧ w'.cell? ⟨b, off + s.at_ * 4 + 3, none⟩ = some (.int .i64 bb)) (simp [*])
        (fail)
      obtain ⟨w8, hw8⟩ : ∃ w8, w8 = (wr.alloc (.cells #[.int .i64 op, .int .i64 d, .int .i64 a, .int .i64 bb] 77)).drew := ⟨_, rfl⟩
      rw [← hw8]
      have hk8 : Keep (fun _ => False) wr w8 := by rw [hw8]; exact ((Keep.refl _ _).alloc _).drew
      have HI8 := hide ((unhide HI).grow hk8)
      have HB8 : Hid (Below wd.heap.size wd w8) := (unhide HB).trans (hk8.below hsz (fun _ _ h => h))
      have y0 : w8.cell? ⟨wr.heap.size, 0, none⟩ = some (.int .i64 op) := by rw [hw8]; exact (World.cell?_alloc_at (hn := rfl) ..).trans rfl
      have y1 : w8.cell? ⟨wr.heap.size, 1, none⟩ = some (.int .i64 d) := by rw [hw8]; exact (World.cell?_alloc_at (hn := rfl) ..).trans rfl
      have y2 : w8.cell? ⟨wr.heap.size, 2, none⟩ = some (.int .i64 a) := by rw [hw8]; exact (World.cell?_alloc_at (hn := rfl) ..).trans rfl
      have y3 : w8.cell? ⟨wr.heap.size, 3, none⟩ = some (.int .i64 bb) := by rw [hw8]; exact (World.cell?_alloc_at (hn := rfl) ..).trans rfl
      have hz8 : wr.heap.size < w8.heap.size := by rw [hw8]; simp
      clear hw8 hk8 x0 x1 x2 x3 u4 c0 c4 a1 a2 a3
      go_upto_if 86 with fail
      go_cut [17] from 64 to 129 (fun vq wc => vq = u17 ∧ ∃ vo', Hid (RunInv wc (wd.heap.size + 1 + 1) wd.heap.size (wd.heap.size + 1) kn sn w6.heap.size s (stepSt ⟨op, d, a, bb⟩ s).outs s.stops s.steps vo' vs (.slice none 0 0) s.steps) ∧ (wc.cell? ⟨wr.heap.size, 0, none⟩ = some (.int .i64 op) ∧ wc.cell? ⟨wr.heap.size, 1, none⟩ = some (.int .i64 d) ∧ wc.cell? ⟨wr.heap.size, 2, none⟩ = some (.int .i64 a) ∧ wc.cell? ⟨wr.heap.size, 3, none⟩ = some (.int .i64 bb)) ∧ wr.heap.size < wc.heap.size ∧ Hid (Below wd.heap.size wd wc))
      case first =>
        by_cases h9 : op = 9
        · subst h9
          obtain ⟨a0, a9⟩ := (unhide HXR).2.2.2.1 (.inr (.inr (.inr (.inl rfl))))
          simp only at a0 a9
          obtain ⟨an, rfl⟩ : ∃ an : Nat, a = an := ⟨a.toNat, by omega⟩
          have hQ8 : w6.heap.size < w8.heap.size := (unhide HI8).iq
          have hol : s.outs.length ≤ 100000 := by have := (unhide HO).outs; omega
          have r3 : w8.cell? ⟨w6.heap.size, 3, none⟩ = some vo := (unhide HI8).r3
          have rf : ∀ o, w8.frozen? ⟨w6.heap.size, o, none⟩ = false := (unhide HI8).rf
          have m1 : w8.cell? ⟨wd.heap.size + 1 + 1, 1, none⟩ = some (.slice (some ⟨wd.heap.size, 0, none⟩) kn kn) := (unhide HI8).mom.rg
          obtain ⟨y, hy⟩ : ∃ y, y = s.regs an := ⟨_, rfl⟩
          have ga : w8.cell? ⟨wd.heap.size, an, none⟩ = some (.int .i64 y) := by rw [hy]; exact (unhide HI8).mom.regs an (by omega)
          have HY := hide hy
          have HOO := hide (unhide HI8).oo
          have HN : Hid (some w6.heap.size ≠ vo.ownBlock) := fun e => by have := ((unhide HI8).no _ e.symm).1; omega
          have HNX : Hid (some wr.heap.size ≠ vo.ownBlock) := fun e => by have := ((unhide HI).no _ e.symm).2; omega
          have a90 : (0 : Int) ≤ (an : Int) := by omega
          have hM8 : wd.heap.size + 1 + 1 < w8.heap.size := by omega
          have hG8 : wd.heap.size < w8.heap.size := by omega
          obtain ⟨i0, hi, hz0, hz1, hz2'⟩ := info_parts Tryd.info3
          clear hy
          go_wp2_with fail
          go_region_law ((refine step_append_lies _ (by rfl) _ _ _ (by rfl) (w6.heap.size + 1) 3 i0 _ 1 8 Tryd.underlying32 hi hz0 hz1 hz2' rfl (by omega) vo s.outs.length (intCells s.outs) (by rfl) (own_keep (unhide HOO) (S := fun _ => False) (by repeat first | exact Keep.refl _ _ | refine Keep.drew ?_ | refine Keep.alloc ?_ _) (fun _ _ h => h)) ⟨w8.heap.size, 0, none⟩ 1 1 [.int .i64 y] (by rfl) (by rfl) (World.news_of_block (cs := #[.int .i64 y]) (t := 3) (fr := (0, 0)) (heap_alloc_new _ _)) (by simp [Value.oneCell']) (by omega) (by unfold maxLen; omega) (by omega) (by simp; omega) (w8.heap.size + 1) (by simp) ?_; intro g cap w10 hown10 hgrow hat10 hlt10; have HBL := hide (grown_block (a := w8) (by repeat first | exact Keep.refl _ _ | refine Keep.drew ?_ | refine Keep.alloc ?_ _) hgrow (unhide HN) hQ8); have b3 : w10.cell? ⟨w6.heap.size, 3, none⟩ = some vo := (World.cell?_of_block (unhide HBL)).trans r3; have bf : w10.frozen? ⟨w6.heap.size, 3, none⟩ = false := (World.frozen?_of_block (unhide HBL)).trans (rf 3)))
          all_goals
            have HZ : Hid (Keep (fun i => some i = vo.ownBlock ∨ i = w6.heap.size) w8 (w10.setCell ⟨w6.heap.size, 3, none⟩ (.slice (some ⟨g, 0, none⟩) (s.outs.length + 1) cap))) := ((Keep.grown (S := fun i => some i = vo.ownBlock ∨ i = w6.heap.size) (by repeat first | exact Keep.refl _ _ | refine Keep.drew ?_ | refine Keep.alloc ?_ _) hgrow (fun i e _ => .inl e.symm)).trans (keep_q _ _ _ _) (fun _ _ h => .inr h))
            have hbx := (unhide HZ).block wr.heap.size hz8 (fun h => h.elim (unhide HNX) (fun e => by omega))
            have HIN := hide ((unhide HI8).out (B := w8.heap.size + 1) (by repeat first | exact Keep.refl _ _ | refine Keep.drew ?_ | refine Keep.alloc ?_ _) hgrow (by omega) hown10 hat10)
            rw [unhide HY] at HIN
            go_wp2_with fail
            go_meet
            case rel =>
              refine ⟨rfl, _, unhide HIN, ⟨(World.cell?_of_block hbx).trans y0, (World.cell?_of_block hbx).trans y1, (World.cell?_of_block hbx).trans y2, (World.cell?_of_block hbx).trans y3⟩, Nat.lt_of_lt_of_le hz8 (unhide HZ).size, (unhide HB8).trans ((unhide HZ).below (by omega) (fun k hk e => ?_))⟩
              rcases e with e | e
              · have := ((unhide HI8).no k e.symm).1; omega
              · omega
        · have h9' : (op == 9) = false := by rw [beq_eq_false_iff_ne]; exact h9
          go_wp2_with fail
          go_meet
          case rel => exact ⟨rfl, vo, by rw [step_outs h9]; exact unhide HI8, ⟨y0, y1, y2, y3⟩, hz8, unhide HB8⟩
      case rest =>
      obtain ⟨rfl, vo', HI9, ⟨z0, z1, z2, z3⟩, hz9, HB9⟩ := hcut
      clear y0 y1 y2 y3 HI8 HB8 hz8
      go_upto_if 102 with fail
      go_cut [17, 18, 19] from 64 to 129 (fun _ _ _ wd' => ∃ vs', Hid (RunInv wd' (wd.heap.size + 1 + 1) wd.heap.size (wd.heap.size + 1) kn sn w6.heap.size s (stepSt ⟨op, d, a, bb⟩ s).outs (stepSt ⟨op, d, a, bb⟩ s).stops s.steps vo' vs' (.slice none 0 0) (s.steps + 1)) ∧ (wd'.cell? ⟨wr.heap.size, 0, none⟩ = some (.int .i64 op) ∧ wd'.cell? ⟨wr.heap.size, 1, none⟩ = some (.int .i64 d) ∧ wd'.cell? ⟨wr.heap.size, 2, none⟩ = some (.int .i64 a) ∧ wd'.cell? ⟨wr.heap.size, 3, none⟩ = some (.int .i64 bb)) ∧ wr.heap.size < wd'.heap.size ∧ Hid (Below wd.heap.size wd wd'))
      case first =>
        by_cases h11 : op = 11
        · subst h11
          have hsl : s.stops.length ≤ 100000 := by have := (unhide HO).stops; omega
          have KT := hide (fun (v : Nat) (w' : World) (h : MomB w' (wd.heap.size + 1 + 1) wd.heap.size (wd.heap.size + 1) kn sn s) (hH : Held w' ta R) => refTold_any _ _ _ kn sn s R ta tc v w' h (by rw [unhide HEV]; rfl) hH (unhide HP).room hlR')
          have hEye : ∀ v, toldE R s.regs s.vars s.at_ v = s.tell v := fun v => by unfold St.tell; rw [unhide HEV]; rfl
          have HEye := hide hEye
          have HHc : Hid (Held wc ta R) := (unhide HHd).below (unhide HB9)
          obtain ⟨i1, hj, hj0, hj1, hj2⟩ := info_parts Tryd.info3
          have hzc : wd.heap.size + 1 + 1 < wc.heap.size := by omega
          clear hEye
          go_wp2_with fail
          obtain ⟨wo, rfl⟩ : ∃ wo, wo = wr := ⟨_, rfl⟩
          go_loopw [17, 18] (fun vv j wk => ∃ n : Nat, n ≤ 4 ∧ j = .int .i64 n ∧ Hid (wk.ownsRow wc.heap.size 3 1 vv n (intCells (tells s n))) ∧ Hid (Below wc.heap.size wc wk)) (fun _ j _ => 4 - (intOf j).toNat)
          case atStart => exact ⟨0, Nat.zero_le _, rfl, World.ownsRow_nil _ _ _ _, Below.refl _ _⟩
          case round =>
            obtain ⟨n, hn4, rfl, HOW, HBk⟩ := hrel
            have hzk : wc.heap.size ≤ wr.heap.size := (unhide HBk).size
            have HIk := hide ((unhide HI9).grow (Keep.of_below (unhide HBk) (fun _ => False)))
            by_cases hlt4 : n < 4
            · have hlt4' : (n : Int) < 4 := by omega
              obtain ⟨y, hy⟩ : ∃ y, y = toldE R s.regs s.vars s.at_ n := ⟨_, rfl⟩
              have KTn := hide (unhide KT n wr (unhide HIk).mom ((unhide HHc).below (unhide HBk)))
              rw [← hy] at KTn
              have HY := hide (hy.trans (unhide HEye n))
              clear hy
              go_wp2_with fail
              refine (unhide KTn).mono ?_
              rintro e wt ⟨rfl, hbt⟩
              have HBt : Hid (Below wc.heap.size wc wt) := (unhide HBk).trans (hbt.mono hzk)
              have HOt := hide (own_keep (unhide HOW) (Keep.of_below hbt (fun _ => False)) (fun _ _ h => h))
              have hzt : wc.heap.size ≤ wt.heap.size := (unhide HBt).size
              clear hbt KTn
              go_wp2_with (at_builtin; refine wpList_append_lies _ rfl _ _ 32 rfl wc.heap.size 3 i1 (.int .i64 0) 1 8 Tryd.underlying32 hj hj0 hj1 hj2 rfl (by decide) u17 n (intCells (tells s n)) rfl (own_keep (unhide HOt) (S := fun _ => False) (by repeat first | exact Keep.refl _ _ | refine Keep.drew ?_ | refine Keep.alloc ?_ _) (fun _ _ h => h)) ⟨wt.heap.size, 0, none⟩ 1 1 [.int .i64 y] rfl rfl (World.news_of_block (cs := #[.int .i64 y]) (t := 3) (fr := (0, 0)) (heap_alloc_new _ _)) (by simp [Value.oneCell']) (by omega) (by unfold maxLen; omega) (by omega) (by simp; omega) (wt.heap.size + 1) (by simp) ?_)
              intro g2 cap2 w13 hown13 hgrow13 hat13 hlt13
              have HO13 : Hid (w13.ownsRow wc.heap.size 3 1 (.slice (some ⟨g2, 0, none⟩) (n + 1) cap2) (n + 1) (intCells (tells s (n + 1)))) := by rw [tells_succ, intCells_snoc, ← unhide HY]; exact hown13
              have HB13 : Hid (Below wc.heap.size wc w13) := (unhide HBt).trans ((Keep.grown (S := fun i => some i = u17.ownBlock) (by repeat first | exact Keep.refl _ _ | refine Keep.drew ?_ | refine Keep.alloc ?_ _) hgrow13 (fun i e _ => e.symm)).below hzt (fun k hk e => by have := (own_in (unhide HOt) k e.symm).1; omega))
              clear hown13 hgrow13 hat13 hlt13
              go_wp2_with fail
              go_roundw
              case measure => simp [intOf]; omega
              case rel => (repeat apply Exists.intro); exact ⟨⟨n + 1, by omega, by go_num, unhide HO13, unhide HB13⟩, rfl⟩
            · obtain rfl : n = 4 := by omega
              have hQk : w6.heap.size < wr.heap.size := (unhide HIk).iq
              have r4 : wr.cell? ⟨w6.heap.size, 4, none⟩ = some vs := (unhide HIk).r4
              have rf : ∀ o, wr.frozen? ⟨w6.heap.size, o, none⟩ = false := (unhide HIk).rf
              have k2 : wr.cell? ⟨wo.heap.size, 2, none⟩ = some (.int .i64 a) := ((unhide HBk).cell (p := ⟨wo.heap.size, 2, none⟩) hz9).trans z2
              have hHO := own_heldI (xs := tells s 4) (by rw [tells_len]; exact unhide HOW)
              rw [tells_len] at hHO
              obtain ⟨ao, cap, rfl, hHv, _⟩ := hHO
              obtain ⟨gb, go, rfl, hgb, hgc⟩ : ∃ b off, ao = some ⟨b, off, none⟩ ∧ b < wr.heap.size ∧ ∀ i, i < 4 → wr.cell? ⟨b, off + i, none⟩ = some (.int .i64 (s.tell i)) := by
                rcases hHv with h | ⟨b, off, e, hb, hc⟩
                · have := tells_len s 4; rw [h] at this; cases this
                · exact ⟨b, off, e, hb, fun i hi => by rw [hc i (by rw [tells_len]; exact hi), tells_nth s hi]⟩
              obtain ⟨v0, hv0⟩ : ∃ v, v = s.tell 0 := ⟨_, rfl⟩
              obtain ⟨v1, hv1⟩ : ∃ v, v = s.tell 1 := ⟨_, rfl⟩
              obtain ⟨v2, hv2⟩ : ∃ v, v = s.tell 2 := ⟨_, rfl⟩
              obtain ⟨v3, hv3⟩ : ∃ v, v = s.tell 3 := ⟨_, rfl⟩
              have KSn := hide (fun w' (h : Keep (fun _ => False) wr w') => seen4_any a v0 v1 v2 v3 gb go cap w' (by rw [hv0]; exact (World.cell?_of_block (h.block gb hgb (fun h => h))).trans (hgc 0 (by decide))) (by rw [hv1]; exact (World.cell?_of_block (h.block gb hgb (fun h => h))).trans (hgc 1 (by decide))) (by rw [hv2]; exact (World.cell?_of_block (h.block gb hgb (fun h => h))).trans (hgc 2 (by decide))) (by rw [hv3]; exact (World.cell?_of_block (h.block gb hgb (fun h => h))).trans (hgc 3 (by decide))))
              have HVS := hide (And.intro hv0 (And.intro hv1 (And.intro hv2 hv3)))
              have HOS := hide (unhide HIk).os
              have HN : Hid (some w6.heap.size ≠ vs.ownBlock) := fun e => by have := ((unhide HIk).ns _ e.symm).1; omega
              have HNX : Hid (some wo.heap.size ≠ vs.ownBlock) := fun e => by have := ((unhide HI).ns _ e.symm).2; omega
              have hzr : wo.heap.size < wr.heap.size := by omega
              obtain ⟨i0, hi, hz0, hz1, hz2'⟩ := info_parts Tryd.info63
              clear hv0 hv1 hv2 hv3 hHv hgc HOW KT
              go_wp2_with fail
              go_region_law (first
                | (go_simp; go_at_call 53; refine (unhide KSn _ ?_).mono ?_; (repeat first | exact Keep.refl _ _ | refine Keep.drew ?_); rintro e w10 ⟨rfl, hb10⟩; have HK10 : Hid (Keep (fun _ => False) wr w10) := hide (Keep.trans (S := fun _ => False) (by repeat first | exact Keep.refl _ _ | refine Keep.drew ?_) (Keep.of_below hb10 (fun _ => False)) (fun _ _ h => h)); have s4 : w10.cell? ⟨w6.heap.size, 4, none⟩ = some vs := (World.cell?_of_block ((unhide HK10).block _ hQk (fun h => h))).trans r4; have hQ10 : w6.heap.size < w10.heap.size := Nat.lt_of_lt_of_le hQk (unhide HK10).size; clear hb10; go_wp2_with fail)
                | (refine step_append_lies _ (by rfl) _ _ _ (by rfl) (w6.heap.size + 1) 63 i0 _ 5 40 Tryd.underlying35 hi hz0 hz1 hz2' rfl (by omega) vs s.stops.length (snCells s.stops) (by rfl) (own_keep (unhide HOS) (S := fun _ => False) (by repeat first | exact unhide HK10 | refine Keep.drew ?_ | refine Keep.alloc ?_ _) (fun _ _ h => h)) ⟨w10.heap.size, 0, none⟩ 1 1 [.int .i64 a, .int .i64 v0, .int .i64 v1, .int .i64 v2, .int .i64 v3] (by rfl) (by rfl) (World.news_of_block (cs := #[.int .i64 a, .int .i64 v0, .int .i64 v1, .int .i64 v2, .int .i64 v3]) (t := 63) (fr := (0, 0)) (heap_alloc_new _ _)) (by simp [Value.oneCell']) (by omega) (by unfold maxLen; omega) (by omega) (by simp; omega) (w10.heap.size + 1) (by simp) ?_; intro g cap' w11 hown11 hgrow hat11 hlt11; have HBL := hide (grown_block (a := wr) (by repeat first | exact unhide HK10 | refine Keep.drew ?_ | refine Keep.alloc ?_ _) hgrow (unhide HN) hQk); have b4 : w11.cell? ⟨w6.heap.size, 4, none⟩ = some vs := (World.cell?_of_block (unhide HBL)).trans r4; have bf : w11.frozen? ⟨w6.heap.size, 4, none⟩ = false := (World.frozen?_of_block (unhide HBL)).trans (rf 4)))
              all_goals
                have HZ : Hid (Keep (fun i => some i = vs.ownBlock ∨ i = w6.heap.size) wr (w11.setCell ⟨w6.heap.size, 4, none⟩ (.slice (some ⟨g, 0, none⟩) (s.stops.length + 1) cap'))) := ((Keep.grown (S := fun i => some i = vs.ownBlock ∨ i = w6.heap.size) (Keep.mono (S := fun _ => False) (by repeat first | exact unhide HK10 | refine Keep.drew ?_ | refine Keep.alloc ?_ _) (fun _ _ h => h.elim)) hgrow (fun i e _ => .inl e.symm)).trans (keep_q _ _ _ _) (fun _ _ h => .inr h))
                have HI12 := hide ((unhide HIk).see (x := ⟨a, v0, v1, v2, v3⟩) (by repeat first | exact unhide HK10 | refine Keep.drew ?_ | refine Keep.alloc ?_ _) hgrow hown11)
                rw [(unhide HVS).1, (unhide HVS).2.1, (unhide HVS).2.2.1, (unhide HVS).2.2.2] at HI12
                have hbx := (unhide HZ).block wo.heap.size hzr (fun h => h.elim (unhide HNX) (fun e => by omega))
                have hbz := hbx.trans ((unhide HBk).block wo.heap.size hz9)
                have hzz : wo.heap.size < (w11.setCell ⟨w6.heap.size, 4, none⟩ (.slice (some ⟨g, 0, none⟩) (s.stops.length + 1) cap')).heap.size := Nat.lt_of_lt_of_le hzr (unhide HZ).size
                clear HBL b4 bf hown11 hgrow hat11 hlt11 hbx
                go_wp2_with fail
                go_meet
                case rel =>
                  refine ⟨_, (unhide HI12).mono (by omega), ⟨(World.cell?_of_block hbz).trans z0, (World.cell?_of_block hbz).trans z1, (World.cell?_of_block hbz).trans z2, (World.cell?_of_block hbz).trans z3⟩, hzz, ((unhide HB9).trans ((unhide HBk).mono (by omega))).trans ((unhide HZ).below (by omega) (fun k hk e => ?_))⟩
                  rcases e with e | e
                  · have := ((unhide HIk).ns k e.symm).1; omega
                  · omega
        · have h11' : (op == 11) = false := by rw [beq_eq_false_iff_ne]; exact h11
          go_wp2_with fail
          go_meet
          case rel => exact ⟨vs, by rw [step_stops h11]; exact (unhide HI9).mono (by omega), ⟨z0, z1, z2, z3⟩, hz9, unhide HB9⟩
      case rest =>
      clear z0 z1 z2 z3 HI9 HB9 hz9
      obtain ⟨vs', HI8, ⟨y0, y1, y2, y3⟩, hz8, HB8⟩ := hcut
      have hs8 := (unhide HB8).size
      go_wp2_with fail
      refine (unhide KP wc (unhide HI8).mom).mono ?_
      rintro e w9 ⟨rfl, hm9, hk9⟩
      have HI9 := hide ((unhide HI8).pass hm9 hk9)
      have HB9 : Hid (Below wd.heap.size wd w9) := (unhide HB8).trans (hk9.below hs8 (fun k hk e => by rcases e with e | e | e <;> omega))
      have g2 : w9.cell? ⟨w6.heap.size, 2, none⟩ = some (.int .i64 (s.steps : Int)) := (unhide HI9).r2
      have gf : ∀ o, w9.frozen? ⟨w6.heap.size, o, none⟩ = false := (unhide HI9).rf
      clear hm9 hk9
      go_wp2_with fail
      go_roundw
      case measure => simp [intOf]; omega
      case rel =>
        refine ⟨stepSt ⟨op, d, a, bb⟩ s, vo', vs', by rw [(unhide HSO).2.1]; go_num, ?_, unhide hn, by rw [(unhide HSO).2.1]; omega, (unhide HSO).1, (unhide HSO).2.2.trans (unhide HEV), step_kind _ _ (unhide HKD), (unhide HB9).setCell (p := ⟨w6.heap.size, 2, none⟩) (show wd.heap.size ≤ w6.heap.size by omega) _⟩
        have hfin := (unhide HI9).count (s.steps + 1) (z := (s.steps : Int) + 1) (by omega)
        rw [(unhide HSO).2.1]
        exact hfin
    · have hend := hide (show runSt L fuel.toNat (stU R none xs) = s by
        rw [unhide HC]
        cases hon : s.on with
        | false => exact run_off _ _ _ hon
        | true =>
          rw [show fuel.toNat - s.steps = 0 by
            rcases Nat.lt_or_ge s.steps fuel.toNat with h | h
            · exact absurd ⟨hon, h⟩ hgo
            · omega]
          rfl)
      have hr := ((unhide HB).block (w.heap.size + 1) (by omega)).trans (unhide HRd)
      have HRr := hide hr
      have z0 : wr.cell? ⟨w.heap.size + 1, 0, none⟩ = some (.int .i64 0) := (cell_of_row wr _ 0 _ 37 (0, 0) hr).trans rfl
      have z1 : wr.cell? ⟨w.heap.size + 1, 1, none⟩ = some (.int .i64 0) := (cell_of_row wr _ 1 _ 37 (0, 0) hr).trans rfl
      have z2 : wr.cell? ⟨w.heap.size + 1, 2, none⟩ = some (.int .i64 0) := (cell_of_row wr _ 2 _ 37 (0, 0) hr).trans rfl
      have z3 : wr.cell? ⟨w.heap.size + 1, 3, none⟩ = some (.slice none 0 0) := (cell_of_row wr _ 3 _ 37 (0, 0) hr).trans rfl
      have z4 : wr.cell? ⟨w.heap.size + 1, 4, none⟩ = some (.slice none 0 0) := (cell_of_row wr _ 4 _ 37 (0, 0) hr).trans rfl
      have zf : ∀ o, wr.frozen? ⟨w.heap.size + 1, o, none⟩ = false := fun o => by simp [World.frozen?, hr]
      have HOo := hide (unhide HI).oo
      have HOs := hide (unhide HI).os
      have c5 : wr.cell? ⟨wd.heap.size + 1 + 1, 5, none⟩ = some (.int .i64 s.val) := (unhide HI).mom.vl
      have r0 := (unhide HI).r0
      have r1 := (unhide HI).r1
      have r2 := (unhide HI).r2
      have r3 := (unhide HI).r3
      have r4 := (unhide HI).r4
      have rf := (unhide HI).rf
      have n1 : w6.heap.size ≠ w.heap.size + 1 := by omega
      have n2 : w6.heap.size ≠ wd.heap.size + 1 + 1 := by omega
      have k1 : ∀ (wq : World) (j o : Nat) (z : Value), (wq.setCell ⟨w6.heap.size, j, none⟩ z).cell? ⟨w.heap.size + 1, o, none⟩ = wq.cell? ⟨w.heap.size + 1, o, none⟩ := fun wq j o z => World.cell?_setCell_other _ _ _ _ (fun e => by injection e with e1; omega)
      have k2 : ∀ (wq : World) (j o : Nat) (z : Value), (wq.setCell ⟨w6.heap.size, j, none⟩ z).cell? ⟨wd.heap.size + 1 + 1, o, none⟩ = wq.cell? ⟨wd.heap.size + 1 + 1, o, none⟩ := fun wq j o z => World.cell?_setCell_other _ _ _ _ (fun e => by injection e with e1; omega)
      obtain ⟨ao, no, co, rfl⟩ := own_slice (unhide HOo)
      obtain ⟨az, ns, cz, rfl⟩ := own_slice (unhide HOs)
      clear hr
      have hcase : (s.on = false ∧ (s.steps : Int) < fuel) ∨ (s.on = false ∧ fuel ≤ (s.steps : Int)) ∨ (s.on = true ∧ fuel ≤ (s.steps : Int)) := by
        cases hon : s.on with
        | false =>
          rcases Int.lt_or_le (s.steps : Int) fuel with h | h
          · exact .inl ⟨rfl, h⟩
          · exact .inr (.inl ⟨rfl, h⟩)
        | true => exact .inr (.inr ⟨rfl, by
            rcases Nat.lt_or_ge s.steps fuel.toNat with h | h
            · exact absurd ⟨hon, h⟩ hgo
            · omega⟩)
      clear hgo
      rcases hcase with ⟨hon, hf⟩ | ⟨hon, hf⟩ | ⟨hon, hf⟩
      case inr.inr =>
        have hen : endI s = -1 := by unfold endI; rw [hon]; rfl
        have HKV := hide ((unhide HO).kind hon)
        rw [hen] at c4
        clear hen hon
        go_wp2_with fail
        refine bodyPost_ret (results_res rfl _ _ (w.heap.size + 1) _ rfl (set5 (unhide HRr) _ _ _ _ _) rfl) rfl ?_
        rw [unhide he, unhide hend]
        exact ⟨_, rfl, ⟨_, _, by rw [(unhide HKV).1, (unhide HKV).2], own_weaken (own5 (unhide HOo) (by omega) _ _ _ _ _) (by omega), own_weaken (own5 (unhide HOs) (by omega) _ _ _ _ _) (by omega)⟩, below5 (unhide HBr) (Nat.le_succ _) _ _ _ _ _⟩
      all_goals
        have hen : endI s = s.kind := by unfold endI; rw [hon]; rfl
        have hkd := unhide HKD
        rw [hen] at c4
        obtain ⟨kd, hkd1⟩ : ∃ kd, kd = s.kind := ⟨_, rfl⟩
        rw [← hkd1] at c4 hkd
        have HKE := hide hkd1
        clear hen hon hkd1
        go_wp2_with fail
        refine bodyPost_ret (results_res rfl _ _ (w.heap.size + 1) _ rfl (set5 (by rw [Below.heap_setCell _ _ _ _ (fun e => n1 e.symm), Below.heap_setCell _ _ _ _ (fun e => n1 e.symm)]; exact unhide HRr) _ _ _ _ _) rfl) rfl ?_
        rw [unhide he, unhide hend]
        exact ⟨_, rfl, ⟨_, _, by rw [unhide HKE], own_weaken (own5 (ownsRow_setCell_below (ownsRow_setCell_below (unhide HOo) (Nat.lt_succ_self _) _) (Nat.lt_succ_self _) _) (by omega) _ _ _ _ _) (by omega), own_weaken (own5 (ownsRow_setCell_below (ownsRow_setCell_below (unhide HOs) (Nat.lt_succ_self _) _) (Nat.lt_succ_self _) _) (by omega) _ _ _ _ _) (by omega)⟩, below5 (((unhide HBr).setCell (p := ⟨w6.heap.size, 0, none⟩) (show w.heap.size ≤ w6.heap.size by omega) _).setCell (p := ⟨w6.heap.size, 1, none⟩) (show w.heap.size ≤ w6.heap.size by omega) _) (Nat.le_succ _) _ _ _ _ _⟩
end Go.Proofs.YtoepcplbpochpaaDoor
