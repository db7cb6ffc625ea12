/-
  What mach.Run answers: the error, or the result of the unit's run.
-/
import Derived.Test.YtoepcplbpochpaaDoorUnit22
import Derived.Test.YtoepcplbpochpaaDoorUnit23
import Derived.Test.YtoepcplbpochpaaDoorUnit19

namespace Go.Proofs.YtoepcplbpochpaaDoor
open Go.RowKit

/-- The table that bytes hold. -/
noncomputable def tabOf (T : ByteArray) : List Rg := @dite _ (∃ R, TabS T R) (Classical.propDecidable _) (fun h => Classical.choose h) (fun _ => [])
theorem tabOf_eq {T : ByteArray} {R : List Rg} (h : TabS T R) : tabOf T = R := by
  unfold tabOf
  rw [@dif_pos _ (Classical.propDecidable _) ⟨R, h⟩]
  exact tab_uniq (Classical.choose_spec (⟨R, h⟩ : ∃ R, TabS T R)) h

set_option maxRecDepth 100000 in
set_option maxHeartbeats 4000000 in
theorem machRun_any (K S P V : Int) (L : List In4) (T : ByteArray) (ac aa : Option Addr) (cc ca : Nat) (xs : List Int) (fuel : Int) (w : World) (hH : HeldIns w ac L) (hA : HeldI w aa xs) (hT : Tab w) (hw0 : 0 < w.heap.size) (hn : L.length ≤ 9223372036854775807) (hl : xs.length ≤ 9223372036854775807) (hs : T.size ≤ maxLen) :
    Calls Tryd.prog 23 #[.agg #[.int .i64 K, .int .i64 S, .int .i64 P, .int .i64 V, .slice ac L.length cc, .string T], .slice aa xs.length ca, .int .i64 fuel] w (RunPost w (runU K S P V L T (tabOf T) xs fuel)) := by
  obtain ⟨e1, he1⟩ : ∃ e, e = (unitE K S P V L T).1 := ⟨_, rfl⟩
  obtain ⟨e2, he2⟩ : ∃ e, e = (unitE K S P V L T).2 := ⟨_, rfl⟩
  obtain ⟨e3, he3⟩ : ∃ e, e = startE xs P fuel := ⟨_, rfl⟩
  have KC := hide (fun w (hH : HeldIns w ac L) (hT : Tab w) (hw0 : 0 < w.heap.size) => machCheck_any K S P V L T ac cc w hH hn hs hT hw0)
  have hsT := hs
  have KS := hide (fun w (hH : HeldI w aa xs) => start_any xs P fuel aa ca w hH hl)
  rw [← he1, ← he2] at KC
  rw [← he3] at KS
  have HE1 := hide he1
  have HE3 := hide he3
  have HH := hide hH
  have HA := hide hA
  have HT := hide hT
  clear he1 he2 he3 hH hA hT
  go_enter Tryd.func23, Tryd.ntmps23
  go_wp2_with fail
  obtain ⟨w1, hw1⟩ : ∃ w1, w1 = (w.alloc (.cells #[.int .i64 K, .int .i64 S, .int .i64 P, .int .i64 V, .slice ac L.length cc, .string T] 26)).alloc (.cells #[.int .i64 0, .int .i64 0, .int .i64 0, .slice none 0 0, .slice none 0 0] 37) := ⟨_, rfl⟩
  rw [← hw1]
  have hB1 : Below w.heap.size w w1 := by rw [hw1]; exact ((Below.refl _ _).alloc (Nat.le_refl _) _).alloc (by simp) _
  have hz1 : w1.heap.size = w.heap.size + 2 := by rw [hw1]; simp
  have p : ∀ i, w1.cell? ⟨w.heap.size, i, none⟩ = #[Value.int .i64 K, .int .i64 S, .int .i64 P, .int .i64 V, .slice ac L.length cc, .string T][i]? := fun i => by
    rw [hw1, World.cell?_alloc_past (hn := by simp), World.cell?_alloc_at (hn := rfl)]
  have h6 : At6 w1 w.heap.size K S P V (.slice ac L.length cc) T := ⟨(p 0).trans rfl, (p 1).trans rfl, (p 2).trans rfl, (p 3).trans rfl, (p 4).trans rfl, (p 5).trans rfl⟩
  have hr : w1.heap[w.heap.size + 1]? = some (.cells #[.int .i64 0, .int .i64 0, .int .i64 0, .slice none 0 0, .slice none 0 0] 37 (0, 0)) := by
    have hh := heap_alloc_new (w.alloc (.cells #[.int .i64 K, .int .i64 S, .int .i64 P, .int .i64 V, .slice ac L.length cc, .string T] 26)) (.cells #[.int .i64 0, .int .i64 0, .int .i64 0, .slice none 0 0, .slice none 0 0] 37)
    rw [show (w.alloc (.cells #[.int .i64 K, .int .i64 S, .int .i64 P, .int .i64 V, .slice ac L.length cc, .string T] 26)).heap.size = w.heap.size + 1 by simp] at hh
    rw [hw1]; exact hh
  clear hw1 p
  refine (unhide KC w1 ((unhide HH).below hB1) ((unhide HT).below hB1 hw0) (by omega)).mono ?_
  rintro e w2 ⟨rfl, hb2⟩
  have hB2 : Below w.heap.size w w2 := hB1.trans (hb2.mono (by omega))
  have h62 := h6.below hb2 (show w.heap.size < w1.heap.size by omega)
  have H62 := hide h62
  obtain ⟨q0, q1, q2, q3, q4, q5⟩ := h62
  have hr2 := (hb2.block (w.heap.size + 1) (by omega)).trans hr
  have hz2 : w.heap.size + 2 ≤ w2.heap.size := by have := hb2.size; omega
  have HR2 := hide hr2
  have HB2 := hide hB2
  have r0 : w2.cell? ⟨w.heap.size + 1, 0, none⟩ = some (.int .i64 0) := (cell_of_row w2 _ 0 _ 37 (0, 0) hr2).trans rfl
  have r1 : w2.cell? ⟨w.heap.size + 1, 1, none⟩ = some (.int .i64 0) := (cell_of_row w2 _ 1 _ 37 (0, 0) hr2).trans rfl
  have r2 : w2.cell? ⟨w.heap.size + 1, 2, none⟩ = some (.int .i64 0) := (cell_of_row w2 _ 2 _ 37 (0, 0) hr2).trans rfl
  have r3 : w2.cell? ⟨w.heap.size + 1, 3, none⟩ = some (.slice none 0 0) := (cell_of_row w2 _ 3 _ 37 (0, 0) hr2).trans rfl
  have r4 : w2.cell? ⟨w.heap.size + 1, 4, none⟩ = some (.slice none 0 0) := (cell_of_row w2 _ 4 _ 37 (0, 0) hr2).trans rfl
  have rf : ∀ o, w2.frozen? ⟨w.heap.size + 1, o, none⟩ = false := fun o => by simp [World.frozen?, hr2]
  clear hb2 h6 hr hr2 hB1 hz1 hB2 hs
  by_cases h1 : e1 = 0
  case neg =>
    have h1' : (e1 != 0) = true := by rw [bne_iff_ne]; exact h1
    have he := hide (show runU K S P V L T (tabOf T) xs fuel = (e1, zst) by unfold runU; rw [if_pos (by rw [← unhide HE1]; exact h1), ← unhide HE1])
    go_wp2_with fail
    refine bodyPost_ret (results_res rfl _ _ (w.heap.size + 1) _ rfl (set5 (unhide HR2) _ _ _ _ _) rfl) rfl ?_
    rw [unhide he]
    exact ⟨_, rfl, ResOf.zero _ _, below5 (unhide HB2) (Nat.le_succ _) _ _ _ _ _⟩
  subst h1
  obtain ⟨R, htR, hpR⟩ := rightU_of K S P V L T (unhide HE1).symm
  have HP := hide hpR
  have HTR := hide htR
  have htE := tabOf_eq htR
  clear htR hpR
  go_wp2_with fail
  refine (unhide KS w2 ((unhide HA).below (unhide HB2))).mono ?_
  rintro e w3 ⟨rfl, hw⟩
  rw [hw]
  clear hw w3
  by_cases h3 : e3 = 0
  case neg =>
    have h3' : (e3 != 0) = true := by rw [bne_iff_ne]; exact h3
    have he := hide (show runU K S P V L T (tabOf T) xs fuel = (e3, zst) by unfold runU; rw [if_neg (by rw [← unhide HE1]; exact fun h => h rfl), if_pos (by rw [← unhide HE3]; exact h3), ← unhide HE3])
    go_wp2_with fail
    refine bodyPost_ret (results_res rfl _ _ (w.heap.size + 1) _ rfl (set5 (unhide HR2) _ _ _ _ _) rfl) rfl ?_
    rw [unhide he]
    exact ⟨_, rfl, ResOf.zero _ _, below5 (unhide HB2) (Nat.le_succ _) _ _ _ _ _⟩
  subst h3
  have hsr := start_right (unhide HE3).symm
  have he := hide (show runU K S P V L T (tabOf T) xs fuel = (0, runSt L fuel.toNat (stU R none xs)) by unfold runU; rw [if_neg (by rw [← unhide HE1]; exact fun h => h rfl), if_neg (by rw [← unhide HE3]; exact fun h => h rfl), htE])
  have hx4 : xs.length ≤ 4 := by have := (unhide HP).p4; have := hsr.1; omega
  have f0 := hsr.2.2.1
  have f1 := hsr.2.2.2
  have KD := hide (fun w => decode_yes hsT (unhide HTR) w)
  have hF := hide (unhide HP).fit
  have HEE := hide (unhide HE3)
  clear hsr
  go_wp2_with fail
  refine (unhide KD w2).mono ?_
  rintro e wd ⟨tv, rfl, hod, hbd⟩
  obtain ⟨ta, tc, rfl, hHd, hlR, _, _⟩ := own_held hod
  have HK := hide (stU_ok (unhide HP) (some (.slice ta R.length tc)) (unhide HEE).symm)
  have KB := hide (fun w (hH : HeldI w aa xs) => machBegin_any R ta tc xs aa ca w hH hx4)
  have HBd : Hid (Below w.heap.size w wd) := (unhide HB2).trans (hbd.mono (by omega))
  have H6d := hide ((unhide H62).below hbd (by omega))
  have HRd := hide ((hbd.block (w.heap.size + 1) (by omega)).trans (unhide HR2))
  have HHd := hide hHd
  have hzd : w.heap.size + 2 ≤ wd.heap.size := by have := hbd.size; omega
  clear hod hbd hHd q0 q1 q2 q3 q4 q5 H62
  go_wp2_with fail
  refine (unhide KB wd ((unhide HA).below (unhide HBd))).mono ?_
  rintro e w3 ⟨cs, rfl, hcs, hb3⟩
  have HCS := hide hcs
  have HB3 : Hid (Below w.heap.size w w3) := (unhide HBd).trans (hb3.mono (by omega))
  have hz3 : w.heap.size + 2 ≤ w3.heap.size := by have := hb3.size; omega
  have hzd3 : wd.heap.size ≤ w3.heap.size := hb3.size
  have s4 := ((unhide H6d).below hb3 (by omega)).2.2.2.2.1
  have HR3 := hide ((hb3.block (w.heap.size + 1) (by omega)).trans (unhide HRd))
  have HH3 := hide ((unhide HHd).below hb3)
  clear hcs hb3 r0 r1 r2 r3 r4 rf HR2 HB2 HRd HHd HBd H6d
  go_wp2_with (refine wpList_store_row ?h1 97 ?h2 ?h3 ?h4 w3.heap.size ?h5 ?h6 ?h7 ?h8 ?h9 ?h10 ?h11 ?h12 ?h13 ?h14; case h4 => rfl)
  case h1 => rfl
  case h6 => rfl
  case h7 => rfl
  case h10 => exact heap_alloc_new _ _
  case h11 => rw [(unhide HCS).1]; exact Tryd.size97
  case h12 => rw [(unhide HCS).1]; rfl
  case h13 => exact (unhide HCS).plain
  rw [World.setRow_alloc_new]
  obtain ⟨w4, hw4⟩ : ∃ w4, w4 = w3.alloc (.cells cs 97) := ⟨_, rfl⟩
  rw [← hw4]
  have hg4 : w4.heap[w3.heap.size]? = some (.cells cs 97 (0, 0)) := by rw [hw4]; exact heap_alloc_new _ _
  have HI4 : Hid (Inv w4 w3.heap.size (stU R (some (.slice ta R.length tc)) xs) (.slice none 0 0) (.slice none 0 0)) := ⟨(unhide HCS).stb (R := R) rfl hg4, World.ownsRow_nil _ _ _ _, World.ownsRow_nil _ _ _ _⟩
  have HB4 : Hid (Below w.heap.size w w4) := by rw [hw4]; exact (unhide HB3).alloc (by omega) _
  have hz4 : w4.heap.size = w3.heap.size + 1 := by rw [hw4]; simp
  have t4 : w4.cell? ⟨w.heap.size, 4, none⟩ = some (.slice ac L.length cc) := by rw [hw4, World.cell?_alloc_past (hn := by omega)]; exact s4
  have HH4 : Hid (Held w4 ta R) := by rw [hw4]; exact (unhide HH3).below ((Below.refl _ _).alloc (Nat.le_refl _) _)
  have HL4 : Hid (∀ b off, ta = some ⟨b, off, none⟩ → R ≠ [] → b < w3.heap.size) := fun b off e hne => by
    rcases unhide HH3 with h | ⟨b', off', e', hb', _⟩
    · exact absurd h hne
    · rw [e] at e'; injection e' with e'; injection e' with e1; omega
  have HR4 : Hid (w4.heap[w.heap.size + 1]? = some (.cells #[.int .i64 0, .int .i64 0, .int .i64 0, .slice none 0 0, .slice none 0 0] 37 (0, 0))) := by rw [hw4]; exact (Below.heap_alloc _ _ _ (by omega)).trans (unhide HR3)
  clear hw4 hg4 s4 HR3 HB3 HH3
  obtain ⟨b, off, rfl, hb, HL⟩ : ∃ b off, ac = some ⟨b, off, none⟩ ∧ b < w.heap.size ∧ Hid (LieI w b off L) := by
    rcases unhide HH with h | h
    · have := (unhide HP).n1; rw [h] at this; exact absurd this (by decide)
    · exact h
  have hl1 := (unhide HP).n1
  have hl164 := (unhide HP).n164
  go_wp2_with fail
  simp only [Act.put]
  go_loopw [50] (fun _ wr => ∃ (s : St) (vo vs : Value), Hid (Inv wr w3.heap.size s vo vs) ∧ Hid (runSt L fuel.toNat (stU R (some (.slice ta R.length tc)) xs) = runSt L (fuel.toNat - s.steps) s) ∧ s.steps ≤ fuel.toNat ∧ Hid (StOkU L s) ∧ Hid (s.env = unitEnv R (some (.slice ta R.length tc))) ∧ Hid (Below w3.heap.size w4 wr)) (fun _ wr => fuel.toNat - stepsOf w3.heap.size wr)
  case atStart => exact ⟨stU R (some (.slice ta R.length tc)) xs, _, _, unhide HI4, rfl, Nat.zero_le _, unhide HK, rfl, Below.refl _ _⟩
  case round =>
    obtain ⟨s, vo, vs, HI, HC, hst, HO, HEV, HB⟩ := hrel
    have c16 : wr.cell? ⟨w3.heap.size, 16, none⟩ = some (.int .i64 (s.at_ : Int)) := (unhide HI).1.2.2.1
    have c17 : wr.cell? ⟨w3.heap.size, 17, none⟩ = some (.bool s.on) := (unhide HI).1.2.2.2.1
    have c18 : wr.cell? ⟨w3.heap.size, 18, none⟩ = some (.int .i64 s.kind) := (unhide HI).1.2.2.2.2.1
    have c19 : wr.cell? ⟨w3.heap.size, 19, none⟩ = some (.int .i64 s.val) := (unhide HI).1.2.2.2.2.2.1
    have c20 : wr.cell? ⟨w3.heap.size, 20, none⟩ = some (.int .i64 (s.steps : Int)) := (unhide HI).1.2.2.2.2.2.2.1
    have c21 : wr.cell? ⟨w3.heap.size, 21, none⟩ = some vo := (unhide HI).1.2.2.2.2.2.2.2.1
    have c22 : wr.cell? ⟨w3.heap.size, 22, none⟩ = some vs := (unhide HI).1.2.2.2.2.2.2.2.2.1
    have u4 := ((unhide HB).cell (p := ⟨w.heap.size, 4, none⟩) (show w.heap.size < w3.heap.size by omega)).trans t4
    have HBr : Hid (Below w.heap.size w wr) := (unhide HB4).trans ((unhide HB).mono (by omega))
    have hr := ((unhide HB).block (w.heap.size + 1) (by omega)).trans (unhide HR4)
    have HRr := hide hr
    have r0 : wr.cell? ⟨w.heap.size + 1, 0, none⟩ = some (.int .i64 0) := (cell_of_row wr _ 0 _ 37 (0, 0) hr).trans rfl
    have r1 : wr.cell? ⟨w.heap.size + 1, 1, none⟩ = some (.int .i64 0) := (cell_of_row wr _ 1 _ 37 (0, 0) hr).trans rfl
    have r2 : wr.cell? ⟨w.heap.size + 1, 2, none⟩ = some (.int .i64 0) := (cell_of_row wr _ 2 _ 37 (0, 0) hr).trans rfl
    have r3 : wr.cell? ⟨w.heap.size + 1, 3, none⟩ = some (.slice none 0 0) := (cell_of_row wr _ 3 _ 37 (0, 0) hr).trans rfl
    have r4 : wr.cell? ⟨w.heap.size + 1, 4, none⟩ = some (.slice none 0 0) := (cell_of_row wr _ 4 _ 37 (0, 0) hr).trans rfl
    have rf : ∀ o, wr.frozen? ⟨w.heap.size + 1, o, none⟩ = false := fun o => by simp [World.frozen?, hr]
    clear hr
    by_cases hgo : s.on = true ∧ s.steps < fuel.toNat
    · obtain ⟨hon, hlt⟩ := hgo
      have hlt' : (s.steps : Int) < fuel := by omega
      have hat := (unhide HO).at_ hon
      obtain ⟨x, hx⟩ : ∃ x, x = inAt L s.at_ := ⟨_, rfl⟩
      have hAx := (unhide HL s.at_ hat).below (unhide HBr) hb
      rw [← hx] at hAx
      obtain ⟨x0, x1, x2, x3⟩ := hAx
      have hso := stepU_ok (unhide HP) (unhide HO) hon
      have HHr : Held wr ta R := by
        rcases unhide HH4 with h | ⟨tb, toff, e, htb, hLt⟩
        · exact .inl h
        · rcases Classical.em (R = []) with h | h
          · exact .inl h
          · exact .inr ⟨tb, toff, e, Nat.lt_of_lt_of_le htb (unhide HB).size, hLt.below (unhide HB) (unhide HL4 tb toff e h)⟩
      have KT := hide (machStep_any w3.heap.size s vo vs x K L.length S R ta tc wr (unhide HI) (by rw [hx]; exact (unhide HP).ins s.at_ hat) (by rw [hx]; exact (unhide HP).low s.at_ hat) (unhide HEV) HHr (unhide hF) (unhide HP).tab (unhide HP).k16 (unhide HP).s16 (unhide HO).regs (unhide HO).vars (by omega) (by omega) (by have := (unhide HO).outs; omega) (by have := (unhide HO).stops; omega))
      have hn := hide (show runSt L fuel.toNat (stU R (some (.slice ta R.length tc)) xs) = runSt L (fuel.toNat - (stepSt x s).steps) (stepSt x s) by
        rw [unhide HC, run_on (by omega) hon, hx, hso.2.1, Nat.sub_sub])
      rw [← hx] at hso
      have HSO := hide hso
      have HX := hide hx
      rw [hon] at c17
      clear hso hx r0 r1 r2 r3 r4 rf c18 c19 c21 c22 hon HHr
      go_wp2_with fail
      refine (unhide KT).mono ?_
      rintro e w5 ⟨rfl, ⟨vo', vs', hI5⟩, hb5⟩
      have HI5 := hide hI5
      have HB5 := hide ((unhide HB).trans hb5)
      have h5 := (unhide HSO).2.1
      have hm := stepsOf_eq hI5.1
      have hm0 := stepsOf_eq (unhide HI).1
      have HM := hide hm
      have HM0 := hide hm0
      clear hI5 hb5 hm hm0 KT
      go_wp2_with fail
      go_roundw
      case rel => exact ⟨stepSt x s, vo', vs', unhide HI5, unhide hn, by omega, (unhide HSO).1, (unhide HSO).2.2.trans (unhide HEV), unhide HB5⟩
      case measure => rw [unhide HM, unhide HM0, h5]; omega
    · have hend0 : runSt L fuel.toNat (stU R (some (.slice ta R.length tc)) xs) = s := by
        rw [unhide HC]
        cases hon : s.on with
        | false => exact run_off _ _ _ hon
        | true =>
          rw [show fuel.toNat - s.steps = 0 by
            rcases Nat.lt_or_ge s.steps fuel.toNat with h | h
            · exact absurd ⟨hon, h⟩ hgo
            · omega]
          rfl
      have hend := hide (show runSt L fuel.toNat (stU R none xs) = s.plain by rw [← stU_plain R (some (.slice ta R.length tc)) xs, ← run_plain, hend0])
      clear hend0
      have HOo := hide (unhide HI).2.1
      have HOs := hide (unhide HI).2.2
      have hcase : s.on = false ∨ (s.on = true ∧ fuel ≤ (s.steps : Int)) := by
        cases hon : s.on with
        | false => exact .inl rfl
        | true => exact .inr ⟨rfl, by
            rcases Nat.lt_or_ge s.steps fuel.toNat with h | h
            · exact absurd ⟨hon, h⟩ hgo
            · omega⟩
      clear hgo
      obtain ⟨ao, no, co, rfl⟩ := own_slice (unhide HOo)
      obtain ⟨az, ns, cz, rfl⟩ := own_slice (unhide HOs)
      rcases hcase with hon | ⟨hon, hf⟩
      all_goals
        rw [hon] at c17
        clear hon
        go_wp2_with fail
        refine bodyPost_ret (results_res rfl _ _ (w.heap.size + 1) _ rfl (set5 (unhide HRr) _ _ _ _ _) rfl) rfl ?_
        rw [unhide he, unhide hend]
        exact ⟨_, rfl, ⟨_, _, rfl, own_weaken (own5 (unhide HOo) (by omega) _ _ _ _ _) (by omega), own_weaken (own5 (unhide HOs) (by omega) _ _ _ _ _) (by omega)⟩, below5 (unhide HBr) (Nat.le_succ _) _ _ _ _ _⟩
end Go.Proofs.YtoepcplbpochpaaDoor
