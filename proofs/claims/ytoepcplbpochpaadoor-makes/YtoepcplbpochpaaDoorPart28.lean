/-
  Compile's unit, held against the document: lodgeref.CompileError, lodgelaw.nothing, made.
-/
import Derived.Test.YtoepcplbpochpaaDoorPart23
import Derived.Test.YtoepcplbpochpaaDoorPart24
import Derived.Test.YtoepcplbpochpaaDoorPart25
import Derived.Test.YtoepcplbpochpaaDoorPart27
import Derived.Test.YtoepcplbpochpaaDoorPart22

namespace Go.Proofs.YtoepcplbpochpaaDoor
open Go.RowKit

set_option maxRecDepth 100000 in
set_option maxHeartbeats 4000000 in
theorem compileError_any (P R V K : Int) (L : List In4) (ao : Option Addr) (cap : Nat) (w : World) (hH : HeldIns w ao L) (hn : L.length ≤ 9223372036854775807) :
    Calls Tryd.prog 62 #[.agg #[.int .i64 P, .int .i64 R, .int .i64 V, .slice ao L.length cap], .int .i64 K] w fun e w' => e = .returned (.int .i64 (cmpE P R V K L)) ∧ Below w.heap.size w w' := by
  have KC := hide (fun w (hH : HeldIns w ao L) => checkProg_any P R V L ao cap w hH hn)
  have HE := hide (show cmpE P R V K L = if (progE P R V L).1 ≠ 0 then (progE P R V L).1 else if K < 2 ∨ 16 < K then 15 else 0 from rfl)
  obtain ⟨e1, he1⟩ : ∃ e, e = (progE P R V L).1 := ⟨_, rfl⟩
  obtain ⟨e2, he2⟩ : ∃ e, e = (progE P R V L).2 := ⟨_, rfl⟩
  rw [← he1, ← he2] at KC
  rw [← he1] at HE
  obtain ⟨w1, hw1⟩ : ∃ w1, w1 = w.alloc (.cells #[.int .i64 P, .int .i64 R, .int .i64 V, .slice ao L.length cap] 24) := ⟨_, rfl⟩
  have HP1 : Hid (ProgB w1 w.heap.size P R V (.slice ao L.length cap)) := by rw [hw1]; exact progb_alloc _ _ _ _ _
  have HL1 : Hid (Below w.heap.size w w1) := by rw [hw1]; exact below_alloc _ _
  have HW := hide hw1
  have HH := hide (hH.below' (unhide HL1))
  clear hw1 hH he1 he2
  go_enter Tryd.func62, Tryd.ntmps62
  go_upto_region 1 with fail
  rw [← unhide HW]
  have p0 := (unhide HP1).c0
  have p1 := (unhide HP1).c1
  have p2 := (unhide HP1).c2
  have p3 := (unhide HP1).c3
  go_wp2_with fail
  refine (unhide KC w1 (unhide HH)).mono ?_
  rintro _ w2 ⟨rfl, hb2⟩
  have HL2 : Hid (Below w.heap.size w w2) := (unhide HL1).trans (hb2.mono (unhide HL1).size)
  clear hb2 p0 p1 p2 p3 HP1 HL1 KC HW HH
  by_cases h1 : e1 = 0
  case neg =>
    have g1 : (e1 != 0) = true := by rw [bne_iff_ne]; exact h1
    have HR := hide (show cmpE P R V K L = e1 by rw [unhide HE, if_pos h1])
    clear h1
    go_wp2_with fail
    go_returns
    exact ⟨ret_int (by rw [unhide HR]), unhide HL2⟩
  subst h1
  by_cases h2 : K < 2
  · have HR := hide (show cmpE P R V K L = 15 by rw [unhide HE, if_neg (fun h => h rfl), if_pos (.inl h2)])
    go_wp2_with fail
    go_returns
    exact ⟨ret_int (by rw [unhide HR]), unhide HL2⟩
  · by_cases h3 : 16 < K
    · have HR := hide (show cmpE P R V K L = 15 by rw [unhide HE, if_neg (fun h => h rfl), if_pos (.inr h3)])
      go_wp2_with fail
      go_returns
      exact ⟨ret_int (by rw [unhide HR]), unhide HL2⟩
    · have HR := hide (show cmpE P R V K L = 0 by rw [unhide HE, if_neg (fun h => h rfl), if_neg (by omega)])
      go_wp2_with fail
      go_returns
      exact ⟨ret_int (by rw [unhide HR]), unhide HL2⟩

set_option maxRecDepth 100000 in
set_option maxHeartbeats 4000000 in
theorem nothing_any (w : World) : Calls Tryd.prog 63 #[.agg #[.int .i64 0, .int .i64 0, .int .i64 0, .int .i64 0, .slice none 0 0, .string ⟨#[]⟩]] w fun e w' => e = .returned (.bool true) ∧ Below w.heap.size w w' := by
  go_enter Tryd.func63, Tryd.ntmps63
  go_wp2_with fail
  go_returns
  exact ⟨rfl, (Below.refl _ _).alloc (Nat.le_refl _) _⟩

theorem results_unit3 {fn : Func} {p q r : Tmp} (h : fn.results = #[.cell p 26, .tmp q, .tmp r]) (tmps : Array Value) (w : World) (g : Nat) (cs : Array Value) (hp : tmps.getD p undef = .pointer (some ⟨g, 0, none⟩)) (hg : w.heap[g]? = some (.cells cs 26 (0, 0))) (hn : cs.size = 6) :
    (results fn tmps).run Tryd.prog w = .ok (.tuple #[.agg cs, tmps.getD q undef, tmps.getD r undef]) w := by
  have hp' : tmps[p]?.getD undef = .pointer (some ⟨g, 0, none⟩) := by simpa using hp
  simp [results, h, hp', asAddr, run_loadVar_row w g 26 26 cs (0, 0) _ hg Tryd.underlying26 rfl (by rw [hn]; exact Tryd.size26)]

set_option maxRecDepth 100000 in
set_option maxHeartbeats 8000000 in
theorem made_bad (P R V K : Int) (L : List In4) (ac : Option Addr) (cc : Nat) (w : World) (hH : HeldIns w ac L) (hn : L.length ≤ 9223372036854775807) (hT : Tab w) (hw0 : 0 < w.heap.size) (hE : cmpE P R V K L ≠ 0) :
    Calls Tryd.prog 25 #[.agg #[.int .i64 P, .int .i64 R, .int .i64 V, .slice ac L.length cc], .int .i64 K] w fun e w' => e = .returned (.tuple #[zUnit, .int .i64 (cmpE P R V K L), .bool true]) ∧ Below w.heap.size w w' := by
  have KC := hide (fun w (hH : HeldIns w ac L) (hT : Tab w) (hw0 : 0 < w.heap.size) => compile_wrong P R V K L ac cc w hH hn hT hw0 hE)
  have KE := hide (fun w (hH : HeldIns w ac L) => compileError_any P R V K L ac cc w hH hn)
  obtain ⟨x, hx⟩ : ∃ x, x = cmpE P R V K L := ⟨_, rfl⟩
  rw [← hx] at KC KE hE
  rw [← hx]
  unfold zUnit at KC ⊢
  have hne : (x != 0) = true := by rw [bne_iff_ne]; exact hE
  obtain ⟨w1, hw1, HP1, HR1, HL1, hz1⟩ := open_cmp w P R V (.slice ac L.length cc)
  have HW := hide hw1
  have HH := hide hH
  have HT := hide hT
  clear hw1 hH hT hE hx
  go_enter Tryd.func25, Tryd.ntmps25
  go_upto_region 1 with fail
  rw [← unhide HW]
  have p0 := (unhide HP1).c0
  have p1 := (unhide HP1).c1
  have p2 := (unhide HP1).c2
  have p3 := (unhide HP1).c3
  go_wp2_with fail
  refine (unhide KC w1 ((unhide HH).below' (unhide HL1)) ((unhide HT).below (unhide HL1) hw0) (by omega)).mono ?_
  rintro _ w2 ⟨rfl, hb2⟩
  clear p0 p1 p2 p3 KC
  have hz2 := hb2.size
  obtain ⟨w3, hw3⟩ : ∃ w3, w3 = w2.alloc (.cells #[.int .i64 0, .int .i64 0, .int .i64 0, .int .i64 0, .slice none 0 0, .string ⟨#[]⟩] 26) := ⟨_, rfl⟩
  have hb3 : Below w2.heap.size w2 w3 := by rw [hw3]; exact below_alloc _ _
  have HU3 : Hid (UnB w3 w2.heap.size 0 0 0 0 (.slice none 0 0) ⟨#[]⟩) := by rw [hw3]; exact heap_alloc_new _ _
  have hz3 : w2.heap.size < w3.heap.size := by rw [hw3]; simp
  have hb13 : Below w1.heap.size w1 w3 := hb2.trans (hb3.mono hz2)
  have HP3 := hide ((unhide HP1).keep (Keep.of_below hb13 (fun _ => False)) (fun h => h))
  have HR3 := hide ((hb13.block (w.heap.size + 1) hz1).trans (unhide HR1))
  have HL3 : Hid (Below w.heap.size w w3) := (unhide HL1).trans (hb13.mono (unhide HL1).size)
  have HW3 := hide hw3
  clear hb2 hb3 hb13 hw3 HP1 HR1 HL1 HW
  go_upto_region 2 with fail
  rw [← unhide HW3]
  have p0 := (unhide HP3).c0
  have p1 := (unhide HP3).c1
  have p2 := (unhide HP3).c2
  have p3 := (unhide HP3).c3
  go_wp2_with fail
  refine (unhide KE w3 ((unhide HH).below' (unhide HL3))).mono ?_
  rintro _ w4 ⟨rfl, hb4⟩
  clear p0 p1 p2 p3 KE HW3
  have HR4 := hide ((hb4.block (w.heap.size + 1) (by omega)).trans (unhide HR3))
  have HL4 : Hid (Below w.heap.size w w4) := (unhide HL3).trans (hb4.mono (unhide HL3).size)
  have HU4 := hide ((unhide HU3).below hb4 hz3)
  have hz4 := hb4.size
  clear hb4 HP3 HR3 HL3 HU3
  have u0 := (unhide HU4).c0
  have u1 := (unhide HU4).c1
  have u2 := (unhide HU4).c2
  have u3 := (unhide HU4).c3
  have u4 := (unhide HU4).c4
  have u5 := (unhide HU4).c5
  go_wp2_with fail
  refine (nothing_any w4).mono ?_
  rintro _ w5 ⟨rfl, hb5⟩
  clear u0 u1 u2 u3 u4 u5
  have HR5 := hide ((hb5.block (w.heap.size + 1) (by omega)).trans (unhide HR4))
  have HL5 : Hid (Below w.heap.size w w5) := (unhide HL4).trans (hb5.mono (unhide HL4).size)
  have HU5 := hide ((unhide HU4).below hb5 (by omega))
  clear hb5 HR4 HL4 HU4
  have u0 := (unhide HU5).c0
  have u1 := (unhide HU5).c1
  have u2 := (unhide HU5).c2
  have u3 := (unhide HU5).c3
  have u4 := (unhide HU5).c4
  have u5 := (unhide HU5).c5
  have r0 : w5.cell? ⟨w.heap.size + 1, 0, none⟩ = some (.int .i64 0) := (cell_of_row w5 _ 0 _ 26 (0, 0) (unhide HR5)).trans rfl
  have r1 : w5.cell? ⟨w.heap.size + 1, 1, none⟩ = some (.int .i64 0) := (cell_of_row w5 _ 1 _ 26 (0, 0) (unhide HR5)).trans rfl
  have r2 : w5.cell? ⟨w.heap.size + 1, 2, none⟩ = some (.int .i64 0) := (cell_of_row w5 _ 2 _ 26 (0, 0) (unhide HR5)).trans rfl
  have r3 : w5.cell? ⟨w.heap.size + 1, 3, none⟩ = some (.int .i64 0) := (cell_of_row w5 _ 3 _ 26 (0, 0) (unhide HR5)).trans rfl
  have r4 : w5.cell? ⟨w.heap.size + 1, 4, none⟩ = some (.slice none 0 0) := (cell_of_row w5 _ 4 _ 26 (0, 0) (unhide HR5)).trans rfl
  have r5 : w5.cell? ⟨w.heap.size + 1, 5, none⟩ = some (.string ⟨#[]⟩) := (cell_of_row w5 _ 5 _ 26 (0, 0) (unhide HR5)).trans rfl
  have rf : ∀ o, w5.frozen? ⟨w.heap.size + 1, o, none⟩ = false := fun o => by have h := unhide HR5; simp [World.frozen?, h]
  go_wp2_with fail
  refine bodyPost_ret (results_unit3 rfl _ _ (w.heap.size + 1) _ rfl (set6 (unhide HR5) _ _ _ _ _ _) rfl) rfl ?_
  exact ⟨rfl, below6 (unhide HL5) (by omega) _ _ _ _ _ _⟩

/-- What made leaves behind, where there is a unit. -/
def MadePost (w : World) (P R V K : Nat) (L : List In4) (e : Ending) (w' : World) : Prop :=
  ∃ ao cap, e = .returned (.tuple #[unitV P R V K L ao cap, .int .i64 0, .bool true]) ∧ w'.ownsRow w.heap.size 77 4 (.slice ao (cmpC P R K L).length cap) (cmpC P R K L).length (insCells (cmpC P R K L)) ∧ Below w.heap.size w w'

set_option maxRecDepth 100000 in
set_option maxHeartbeats 8000000 in
theorem made_good (P R V K : Nat) (L : List In4) (ac : Option Addr) (cc : Nat) (w : World) (hp : RightP P R V L) (hK : 2 ≤ K) (hK' : K ≤ 16) (hH : HeldIns w ac L) (hT : Tab w) (hw0 : 0 < w.heap.size) :
    Calls Tryd.prog 25 #[.agg #[.int .i64 P, .int .i64 R, .int .i64 V, .slice ac L.length cc], .int .i64 K] w (MadePost w P R V K L) := by
  have hE := prog_zero hp
  have hU := unit_ok hp hK hK'
  have hp4 := hp.p4
  have hn40 := hp.n40
  have hr12 := hp.r12
  have hTs : (encT (cmpR P R V K L)).size ≤ maxLen := Nat.le_trans (tab_size hU.2) (by unfold maxLen; omega)
  have hCl : (cmpC P R K L).length ≤ 4 * L.length + 4 := by
    rw [cmpC_len]
    have := wTo_len (homS L R K) (homA L R K) K (liveB L 0) P L L.length
    unfold cmpQ; omega
  have hSl : slotsB L P R K ≤ P + R := by have := (slots_bound L P R K (by have := hp.pr; omega)).2; omega
  have hE0 : cmpE P R V K L = 0 := by unfold cmpE; rw [hE, if_neg (fun h => h rfl), if_neg (by omega)]
  have KC := hide (fun w (hH : HeldIns w ac L) (hT : Tab w) (hw0 : 0 < w.heap.size) => compile_right P R V K L ac cc w hH hT hw0 (by rw [hE]) hK hK')
  have KE := hide (fun w (hH : HeldIns w ac L) => compileError_any P R V K L ac cc w hH (by omega))
  have KM := hide (fun (uo : Option Addr) (uc : Nat) w (hH : HeldIns w uo (cmpC P R K L)) => checkUnit_any K (slotsB L P R K) P V (cmpC P R K L) (encT (cmpR P R V K L)) uo uc w hH (by omega) hTs)
  rw [hE0] at KE
  rw [hU.1] at KM
  unfold MadePost unitV
  unfold CmpPost at KC
  obtain ⟨T, hTe⟩ : ∃ T, T = encT (cmpR P R V K L) := ⟨_, rfl⟩
  obtain ⟨S, hSe⟩ : ∃ S, S = slotsB L P R K := ⟨_, rfl⟩
  obtain ⟨C, hCe⟩ : ∃ C, C = cmpC P R K L := ⟨_, rfl⟩
  rw [← hTe, ← hSe, ← hCe] at KC KM
  rw [← hTe, ← hSe, ← hCe]
  rw [← hCe] at hCl
  rw [← hSe] at hSl
  clear hTe hSe hCe hTs hE hU hE0 hp
  obtain ⟨w1, hw1, HP1, HR1, HL1, hz1⟩ := open_cmp w P R V (.slice ac L.length cc)
  have HW := hide hw1
  have HH := hide hH
  have HT := hide hT
  clear hw1 hH hT
  go_enter Tryd.func25, Tryd.ntmps25
  go_upto_region 1 with fail
  rw [← unhide HW]
  have p0 := (unhide HP1).c0
  have p1 := (unhide HP1).c1
  have p2 := (unhide HP1).c2
  have p3 := (unhide HP1).c3
  go_wp2_with fail
  refine (unhide KC w1 ((unhide HH).below' (unhide HL1)) ((unhide HT).below (unhide HL1) hw0) (by omega)).mono ?_
  rintro _ w2 ⟨uo, uc, rfl, hown, hb2⟩
  clear p0 p1 p2 p3 KC
  have hz2 := hb2.size
  obtain ⟨w3, hw3⟩ : ∃ w3, w3 = w2.alloc (.cells #[.int .i64 K, .int .i64 S, .int .i64 P, .int .i64 V, .slice uo C.length uc, .string T] 26) := ⟨_, rfl⟩
  have hb3 : Below w2.heap.size w2 w3 := by rw [hw3]; exact below_alloc _ _
  have HU3 : Hid (UnB w3 w2.heap.size K S P V (.slice uo C.length uc) T) := by rw [hw3]; exact heap_alloc_new _ _
  have hz3 : w2.heap.size < w3.heap.size := by rw [hw3]; simp
  have hb13 : Below w1.heap.size w1 w3 := hb2.trans (hb3.mono hz2)
  have HP3 := hide ((unhide HP1).keep (Keep.of_below hb13 (fun _ => False)) (fun h => h))
  have HR3 := hide ((hb13.block (w.heap.size + 1) hz1).trans (unhide HR1))
  have HL3 : Hid (Below w.heap.size w w3) := (unhide HL1).trans (hb13.mono (unhide HL1).size)
  have HO3 := hide (own_keep hown (Keep.of_below hb3 (fun _ => False)) (fun _ _ h => h))
  have HW3 := hide hw3
  clear hb2 hb3 hb13 hw3 HP1 HR1 HL1 HW hown
  go_upto_region 2 with fail
  rw [← unhide HW3]
  have p0 := (unhide HP3).c0
  have p1 := (unhide HP3).c1
  have p2 := (unhide HP3).c2
  have p3 := (unhide HP3).c3
  go_wp2_with fail
  refine (unhide KE w3 ((unhide HH).below' (unhide HL3))).mono ?_
  rintro _ w4 ⟨rfl, hb4⟩
  clear p0 p1 p2 p3 KE HW3
  have hz4 := hb4.size
  have HP4 := hide ((unhide HP3).keep (Keep.of_below hb4 (fun _ => False)) (fun h => h))
  have HR4 := hide ((hb4.block (w.heap.size + 1) (by omega)).trans (unhide HR3))
  have HL4 : Hid (Below w.heap.size w w4) := (unhide HL3).trans (hb4.mono (unhide HL3).size)
  have HU4 := hide ((unhide HU3).below hb4 hz3)
  have HO4 := hide (own_keep (unhide HO3) (Keep.of_below hb4 (fun _ => False)) (fun _ _ h => h))
  clear hb4 HP3 HR3 HL3 HU3 HO3
  have u0 := (unhide HU4).c0
  have u1 := (unhide HU4).c1
  have u2 := (unhide HU4).c2
  have u3 := (unhide HU4).c3
  have u4 := (unhide HU4).c4
  have u5 := (unhide HU4).c5
  go_wp2_with fail
  refine (unhide KM uo uc w4 (held_own (unhide HO4))).mono ?_
  rintro _ w5 ⟨rfl, hb5⟩
  clear u0 u1 u2 u3 u4 u5 KM
  have hz5 := hb5.size
  have HP5 := hide ((unhide HP4).keep (Keep.of_below hb5 (fun _ => False)) (fun h => h))
  have HR5 := hide ((hb5.block (w.heap.size + 1) (by omega)).trans (unhide HR4))
  have HL5 : Hid (Below w.heap.size w w5) := (unhide HL4).trans (hb5.mono (unhide HL4).size)
  have HU5 := hide ((unhide HU4).below hb5 (by omega))
  have HO5 := hide (own_keep (unhide HO4) (Keep.of_below hb5 (fun _ => False)) (fun _ _ h => h))
  clear hb5 HP4 HR4 HL4 HU4 HO4
  have u0 := (unhide HU5).c0
  have u1 := (unhide HU5).c1
  have u2 := (unhide HU5).c2
  have u3 := (unhide HU5).c3
  have u4 := (unhide HU5).c4
  have u5 := (unhide HU5).c5
  have p0 := (unhide HP5).c0
  have p1 := (unhide HP5).c1
  have p2 := (unhide HP5).c2
  have p3 := (unhide HP5).c3
  have hPR : IntKind.i64.wrap ((P : Int) + (R : Int)) = (P : Int) + (R : Int) := by rw [IntKind.wrap_i64]; omega
  have hS1 : ¬ ((S : Int) > (P : Int) + (R : Int)) := by omega
  go_upto_region 11 with fail
  have r0 : w5.cell? ⟨w.heap.size + 1, 0, none⟩ = some (.int .i64 0) := (cell_of_row w5 _ 0 _ 26 (0, 0) (unhide HR5)).trans rfl
  have r1 : w5.cell? ⟨w.heap.size + 1, 1, none⟩ = some (.int .i64 0) := (cell_of_row w5 _ 1 _ 26 (0, 0) (unhide HR5)).trans rfl
  have r2 : w5.cell? ⟨w.heap.size + 1, 2, none⟩ = some (.int .i64 0) := (cell_of_row w5 _ 2 _ 26 (0, 0) (unhide HR5)).trans rfl
  have r3 : w5.cell? ⟨w.heap.size + 1, 3, none⟩ = some (.int .i64 0) := (cell_of_row w5 _ 3 _ 26 (0, 0) (unhide HR5)).trans rfl
  have r4 : w5.cell? ⟨w.heap.size + 1, 4, none⟩ = some (.slice none 0 0) := (cell_of_row w5 _ 4 _ 26 (0, 0) (unhide HR5)).trans rfl
  have r5 : w5.cell? ⟨w.heap.size + 1, 5, none⟩ = some (.string ⟨#[]⟩) := (cell_of_row w5 _ 5 _ 26 (0, 0) (unhide HR5)).trans rfl
  have rf : ∀ o, w5.frozen? ⟨w.heap.size + 1, o, none⟩ = false := fun o => by have h := unhide HR5; simp [World.frozen?, h]
  have h4n : IntKind.i64.wrap (4 * (L.length : Int)) = 4 * (L.length : Int) := by rw [IntKind.wrap_i64]; omega
  have h4n' : IntKind.i64.wrap (4 * (L.length : Int) + 4) = 4 * (L.length : Int) + 4 := by rw [IntKind.wrap_i64]; omega
  have hle : (C.length : Int) ≤ 4 * (L.length : Int) + 4 := by omega
  have hk0 : ∀ (wq : World) (j o : Nat) (z : Value), (wq.setCell ⟨w.heap.size + 1, j, none⟩ z).cell? ⟨w2.heap.size, o, none⟩ = wq.cell? ⟨w2.heap.size, o, none⟩ := fun wq j o z => World.cell?_setCell_other _ _ _ _ (fun e => by injection e with e1; omega)
  have hk1 : ∀ (wq : World) (j o : Nat) (z : Value), (wq.setCell ⟨w.heap.size + 1, j, none⟩ z).cell? ⟨w.heap.size, o, none⟩ = wq.cell? ⟨w.heap.size, o, none⟩ := fun wq j o z => World.cell?_setCell_other _ _ _ _ (fun e => by injection e with e1; omega)
  clear p0 p1 p2
  go_region_held3 (fun w' => w'.cell? ⟨w2.heap.size, 0, none⟩ = some (.int .i64 (K : Int)) ∧ w'.cell? ⟨w2.heap.size, 1, none⟩ = some (.int .i64 (S : Int)) ∧ w'.cell? ⟨w2.heap.size, 2, none⟩ = some (.int .i64 (P : Int)) ∧ w'.cell? ⟨w2.heap.size, 3, none⟩ = some (.int .i64 (V : Int)) ∧ w'.cell? ⟨w2.heap.size, 4, none⟩ = some (.slice uo C.length uc) ∧ w'.cell? ⟨w2.heap.size, 5, none⟩ = some (.string T) ∧ w'.cell? ⟨w.heap.size, 3, none⟩ = some (.slice ac L.length cc)) (first | go_keep | (simp [*]; done) | assumption) (fail)
  clear hk0 hk1 u0 u1 u2 u3 u4 u5 p3
  obtain ⟨wf, hwf⟩ : ∃ wf, wf = ((((((w5.setCell ⟨w.heap.size + 1, 0, none⟩ (.int .i64 K)).setCell ⟨w.heap.size + 1, 1, none⟩ (.int .i64 S)).setCell ⟨w.heap.size + 1, 2, none⟩ (.int .i64 P)).setCell ⟨w.heap.size + 1, 3, none⟩ (.int .i64 V)).setCell ⟨w.heap.size + 1, 4, none⟩ (.slice uo C.length uc)).setCell ⟨w.heap.size + 1, 5, none⟩ (.string T)).drew := ⟨_, rfl⟩
  have hkk : Keep (fun k => k = w.heap.size + 1) w5 wf := by rw [hwf]; exact (keep6 w5 (w.heap.size + 1) _ _ _ _ _ _).drew
  have HRF : Hid (wf.heap[w.heap.size + 1]? = some (.cells #[.int .i64 K, .int .i64 S, .int .i64 P, .int .i64 V, .slice uo C.length uc, .string T] 26 (0, 0))) := by rw [hwf]; exact (drew_block _ _).trans (set6 (unhide HR5) _ _ _ _ _ _)
  have HFIN := hide (And.intro (own_keep (own_weakR (unhide HO5) (show w.heap.size ≤ w1.heap.size by omega)) hkk (fun g hg e => by have := (own_in (unhide HO5) g hg).1; omega)) ((unhide HL5).trans (hkk.below (unhide HL5).size (fun k hk e => by omega))))
  rw [← hwf]
  clear hkk hwf
  go_wp2_with fail
  refine bodyPost_ret (results_unit3 rfl _ _ (w.heap.size + 1) _ rfl (unhide HRF) rfl) rfl ?_
  exact ⟨uo, uc, rfl, (unhide HFIN).1, (unhide HFIN).2⟩
end Go.Proofs.YtoepcplbpochpaaDoor

/-
  The walk through lodgelaw.Makes.
-/
namespace Go.Proofs.YtoepcplbpochpaaDoor
open Go.RowKit

/-- The program as it came in, the program whose code was lent, and that code. -/
structure MK (w wr : World) (P R V : Int) (L : List In4) (ac : Option Addr) (cc : Nat) : Prop where
  p : ProgB wr w.heap.size P R V (.slice ac L.length cc)
  q : ProgB wr (w.heap.size + 1) P R V (.slice (some ⟨w.heap.size + 2, 0, none⟩) L.length (L.length + 2))
  lent : Lent wr (w.heap.size + 2) L
  bel : Below w.heap.size w wr
theorem Lent.of_block {w w' : World} {g : Nat} {L : List In4} (h : Lent w g L) (hb : w'.heap[g]? = w.heap[g]?) (hz : w.heap.size ≤ w'.heap.size) : Lent w' g L := by
  have c : ∀ o, w'.cell? ⟨g, o, none⟩ = w.cell? ⟨g, o, none⟩ := fun o => World.cell?_of_block hb
  refine ⟨fun i hi => ?_, (c _).trans h.m0, (c _).trans h.m1, Nat.lt_of_lt_of_le h.lt hz⟩
  obtain ⟨h0, h1, h2, h3⟩ := h.lie i hi
  exact ⟨(c _).trans h0, (c _).trans h1, (c _).trans h2, (c _).trans h3⟩
theorem MK.keep {S : Nat → Prop} {w wr w' : World} {P R V : Int} {L : List In4} {ac : Option Addr} {cc : Nat} (h : MK w wr P R V L ac cc) (hk : Keep S wr w') (hS : ∀ i, S i → w.heap.size + 3 ≤ i) : MK w w' P R V L ac cc :=
  ⟨h.p.keep hk (fun e => by have := hS _ e; omega), h.q.keep hk (fun e => by have := hS _ e; omega), h.lent.of_block (hk.block _ h.lent.lt (fun e => by have := hS _ e; omega)) hk.size, h.bel.trans (hk.below h.bel.size (fun k hk e => by have := hS _ e; omega))⟩
theorem MK.next {w wr w' : World} {P R V : Int} {L : List In4} {ac : Option Addr} {cc : Nat} (h : MK w wr P R V L ac cc) (hb : Below wr.heap.size wr w') : MK w w' P R V L ac cc :=
  h.keep (Keep.of_below hb (fun _ => False)) (fun _ h => h.elim)
theorem MK.lie {w wr : World} {P R V : Int} {L : List In4} {ac : Option Addr} {cc : Nat} (h : MK w wr P R V L ac cc) : HeldIns wr (some ⟨w.heap.size + 2, 0, none⟩) L := .inr ⟨_, _, rfl, h.lent.lt, h.lent.lie⟩
theorem MK.big {w wr : World} {P R V : Int} {L : List In4} {ac : Option Addr} {cc : Nat} (h : MK w wr P R V L ac cc) : w.heap.size + 3 ≤ wr.heap.size := h.lent.lt
theorem ProgB.free {w : World} {B : Nat} {P R V : Int} {sl : Value} (h : ProgB w B P R V sl) (o : Nat) : w.frozen? ⟨B, o, none⟩ = false := by
  unfold ProgB at h; simp [World.frozen?, h]
/-- The two boxes. -/
theorem mk_boxes (w : World) (P R V : Int) (sl : Value) : ∃ w1 w2, w1 = w.alloc (.cells #[.int .i64 P, .int .i64 R, .int .i64 V, sl] 24) ∧ w2 = w1.alloc (.cells #[.int .i64 P, .int .i64 R, .int .i64 V, sl] 24) ∧ Hid (ProgB w1 w.heap.size P R V sl) ∧ Hid (ProgB w2 w.heap.size P R V sl) ∧ Hid (ProgB w2 (w.heap.size + 1) P R V sl) ∧ Hid (Below w.heap.size w w2) ∧ w1.heap.size = w.heap.size + 1 ∧ w2.heap.size = w.heap.size + 2 := by
  refine ⟨_, _, rfl, rfl, progb_alloc w P R V sl, (progb_alloc w P R V sl).below (below_alloc _ _), ?_, (below_alloc _ _).alloc (by simp) _, by simp, by simp⟩
  have := progb_alloc (w.alloc (.cells #[.int .i64 P, .int .i64 R, .int .i64 V, sl] 24)) P R V sl
  unfold Hid; simpa using this
theorem mk_lent {w w2 w3 : World} {P R V : Int} {L : List In4} {ac : Option Addr} {cc : Nat} (hp : ProgB w2 w.heap.size P R V (.slice ac L.length cc)) (hq : ProgB w2 (w.heap.size + 1) P R V (.slice ac L.length cc)) (hz : w2.heap.size = w.heap.size + 2) (hb : Below w.heap.size w w2) (hL : Lent w3 (w.heap.size + 2) L) (hb3 : Below w2.heap.size w2 w3) :
    MK w (w3.setCell ⟨w.heap.size + 1, 3, none⟩ (.slice (some ⟨w.heap.size + 2, 0, none⟩) L.length (L.length + 2))) P R V L ac cc := by
  have hk := keep_set (Keep.refl (fun k => k = w.heap.size + 1) w3) 3 (.slice (some ⟨w.heap.size + 2, 0, none⟩) L.length (L.length + 2))
  have hq3 := hq.below hb3
  refine ⟨(hp.below hb3).keep hk (by omega), ?_, hL.of_block (hk.block _ hL.lt (by omega)) hk.size, (hb.trans (hb3.mono (by omega))).trans (hk.below (by have := hb3.size; omega) (fun k hk e => by omega))⟩
  exact (heap_setCell_same w3 (w.heap.size + 1) 3 _ 24 _ hq3).trans rfl
/-- A unit, boxed. -/
theorem ubox (w : World) (K S P V : Int) (sl : Value) (T : ByteArray) : ∃ w1, w1 = w.alloc (.cells #[.int .i64 K, .int .i64 S, .int .i64 P, .int .i64 V, sl, .string T] 26) ∧ Hid (UnB w1 w.heap.size K S P V sl T) ∧ Hid (Below w.heap.size w w1) ∧ w1.heap.size = w.heap.size + 1 :=
  ⟨_, rfl, heap_alloc_new _ _, below_alloc _ _, by simp⟩
/-- Compile answers, whatever it is asked. -/
theorem compile_some (P R V K : Nat) (L : List In4) (ao : Option Addr) (cap : Nat) (w : World) (hp : RightP P R V L) (hK : 2 ≤ K) (hH : HeldIns w ao L) (hT : Tab w) (hw0 : 0 < w.heap.size) :
    Calls Tryd.prog 27 #[.agg #[.int .i64 P, .int .i64 R, .int .i64 V, .slice ao L.length cap], .int .i64 K] w fun e w' => (∃ v, e = .returned v) ∧ Below w.heap.size w w' := by
  by_cases hK' : K ≤ 16
  · refine (compile_right P R V K L ao cap w hH hT hw0 (by rw [prog_zero hp]) hK hK').mono ?_
    rintro e w' ⟨uo, uc, rfl, _, hb⟩
    exact ⟨⟨_, rfl⟩, hb⟩
  · refine (compile_wrong P R V K L ao cap w hH (by have := hp.n40; omega) hT hw0 (by unfold cmpE; rw [prog_zero hp, if_neg (fun h => h rfl), if_pos (by omega)]; decide)).mono ?_
    rintro e w' ⟨rfl, hb⟩
    exact ⟨⟨_, rfl⟩, hb⟩
/-- A new list of instructions, and what was copied into it. -/
theorem kept_copy (w : World) (C : List In4) (uo : Option Addr) (uc : Nat) (hH : HeldIns w uo C) (hC : C.length ≤ 1000) : ∃ w1 w2, (Instr.makeSlice 22 (.int .i64 (C.length : Int)) (.int .i64 (C.length : Int))).run Tryd.prog w = .ok (.slice (some ⟨w.heap.size, 0, none⟩) C.length C.length) w1 ∧
    (∀ ty, (Builtin.copy_ #[22, 22] ty #[.slice (some ⟨w.heap.size, 0, none⟩) C.length C.length, .slice uo C.length uc]).run Tryd.prog w1 = .ok (goInt C.length) w2) ∧ Below w.heap.size w w1 ∧ Below w.heap.size w w2 ∧ LieI w2 w.heap.size 0 C ∧ w.heap.size < w2.heap.size ∧ w1.heap.size = w.heap.size + 1 := by
  obtain ⟨i0, hi, hz0, hz1, hz2⟩ := info_parts Tryd.i42
  have hmk : (Instr.makeSlice 22 (.int .i64 (C.length : Int)) (.int .i64 (C.length : Int))).run Tryd.prog w = .ok (.slice (some ⟨w.heap.size, 0, none⟩) C.length C.length) (w.alloc (.cells (madeCells #[.int .i64 0, .int .i64 0, .int .i64 0, .int .i64 0] (C.length * 4)) 77)) := by
    have := run_make (P := Tryd.prog) w 22 77 i0 _ Tryd.underlying22 hi hz0 .i64 .i64 (C.length : Int) (C.length : Int) (by omega) (by omega) (by rw [hz2]; omega) (by omega)
    rw [hz1, show (C.length : Int).toNat = C.length by omega] at this
    exact this
  obtain ⟨w1, hw1⟩ : ∃ w1, w1 = w.alloc (.cells (madeCells #[.int .i64 0, .int .i64 0, .int .i64 0, .int .i64 0] (C.length * 4)) 77) := ⟨_, rfl⟩
  rw [← hw1] at hmk
  have hg1 : w1.heap[w.heap.size]? = some (.cells (madeCells #[.int .i64 0, .int .i64 0, .int .i64 0, .int .i64 0] (C.length * 4)) 77 (0, 0)) := by rw [hw1]; exact heap_alloc_new _ _
  have hb1 : Below w.heap.size w w1 := by rw [hw1]; exact below_alloc _ _
  have hcs : (madeCells #[Value.int .i64 0, .int .i64 0, .int .i64 0, .int .i64 0] (C.length * 4)).size = C.length * 4 := by simp [madeCells]
  obtain ⟨w2, hcp, hg2, hk2⟩ := copy_keep (P := Tryd.prog) 22 22 77 4 Tryd.underlying22 Tryd.size77 uo w.heap.size C.length C.length C.length uc (Nat.le_refl _) _ 77 hg1 (insCells C) (insCells_len C) (held_code (hH.below hb1)) (by rw [insCells_len, hcs]; exact Nat.le_refl _) (insCells_one C)
  exact ⟨w1, w2, hmk, hcp, hb1, hb1.trans (hk2.below hb1.size (fun k hk e => by omega)), row_code hg2, (Array.getElem?_eq_some_iff.1 hg2).1, by rw [hw1]; simp⟩
/-- Code that was made, and its block. -/
theorem own_block {w : World} {base : Nat} {ao : Option Addr} {cap : Nat} {C : List In4} (h : w.ownsRow base 77 4 (.slice ao C.length cap) C.length (insCells C)) (h1 : 1 ≤ C.length) : ∃ g, ao = some ⟨g, 0, none⟩ ∧ base ≤ g ∧ g < w.heap.size ∧ C.length ≤ cap ∧ cap ≤ 9223372036854775807 ∧ ∃ cur, w.heap[g]? = some (.cells cur 77 (0, 0)) ∧ cur.size = cap * 4 := by
  rcases h.2 with ⟨h2, h3⟩ | ⟨g, cap', cur, h2, h3, h4, h5, h6, h7, h8⟩
  · omega
  · injection h2 with e1 e2 e3
    subst e3
    exact ⟨g, e1, h3, (Array.getElem?_eq_some_iff.1 h4).1, h5, h6, cur, h4, h7⟩

theorem lie_block {w w' : World} {b off : Nat} {L : List In4} (h : LieI w b off L) (hb : w'.heap[b]? = w.heap[b]?) : LieI w' b off L := fun i hi => by
  have c : ∀ o, w'.cell? ⟨b, o, none⟩ = w.cell? ⟨b, o, none⟩ := fun o => World.cell?_of_block hb
  obtain ⟨h0, h1, h2, h3⟩ := h i hi
  exact ⟨(c _).trans h0, (c _).trans h1, (c _).trans h2, (c _).trans h3⟩

set_option maxRecDepth 100000 in
set_option maxHeartbeats 8000000 in
theorem makes_bad (P0 R0 V0 : Int) (L : List In4) (ac : Option Addr) (cc : Nat) (k : Int) (w : World) (hH : HeldIns w ac L) (hlen : L.length * 32 ≤ 140737488351232) (hT : Tab w) (hw0 : 0 < w.heap.size) (hE : cmpE P0 R0 V0 k L ≠ 0) :
    Calls Tryd.prog 6 #[.agg #[.int .i64 P0, .int .i64 R0, .int .i64 V0, .slice ac L.length cc], .int .i64 k] w fun e w' => e = .returned (.bool true) ∧ Below w.heap.size w w' := by
  obtain ⟨w1, w2, hw1, hw2, HP1, HP2, HQ2, HL2, hz1, hz2⟩ := mk_boxes w P0 R0 V0 (.slice ac L.length cc)
  have HW1 := hide hw1
  have HW2 := hide hw2
  have KL := hide (lent_any L ac cc w2 (hH.below' (unhide HL2)) hlen)
  rw [hz2] at KL
  have KM := hide (fun w' (h : HeldIns w' (some ⟨w.heap.size + 2, 0, none⟩) L) (hT : Tab w') (h0 : 0 < w'.heap.size) => made_bad P0 R0 V0 k L (some ⟨w.heap.size + 2, 0, none⟩) (L.length + 2) w' h (by omega) hT h0 hE)
  have KB := hide (fun w' (h : MK w w' P0 R0 V0 L ac cc) => back_any L (w.heap.size + 2) ac cc w' (hH.below' h.bel) h.lent hlen)
  obtain ⟨x, hx⟩ : ∃ x, x = cmpE P0 R0 V0 k L := ⟨_, rfl⟩
  rw [← hx] at KM hE
  unfold zUnit at KM
  have hne : (x != 0) = true := by rw [bne_iff_ne]; exact hE
  have HT := hide hT
  clear hw1 hw2 hx hE hH hT
  go_enter Tryd.func6, Tryd.ntmps6
  go_upto_region 1 with fail
  rw [← unhide HW1]
  have p0 := (unhide HP1).c0
  have p1 := (unhide HP1).c1
  have p2 := (unhide HP1).c2
  have p3 := (unhide HP1).c3
  go_upto_region 2 with fail
  rw [← unhide HW2]
  clear p0 p1 p2 p3
  have p3 := (unhide HP2).c3
  go_wp2_with fail
  refine (unhide KL).mono ?_
  rintro _ w3 ⟨rfl, hL3, hb3⟩
  rw [← hz2] at hb3
  have HM4 := hide (mk_lent (unhide HP2) (unhide HQ2) hz2 (unhide HL2) hL3 hb3)
  have hQ3 := (unhide HQ2).below hb3
  have q3 := hQ3.c3
  have hf3 := hQ3.free
  obtain ⟨w4, hw4⟩ : ∃ w4, w4 = w3.setCell ⟨w.heap.size + 1, 3, none⟩ (.slice (some ⟨w.heap.size + 2, 0, none⟩) L.length (L.length + 2)) := ⟨_, rfl⟩
  rw [← hw4] at HM4
  have HW4 := hide hw4
  clear hw4 hQ3 hL3 hb3 p3 HP1 HP2 HQ2 HL2 KL
  go_upto_region 3 with fail
  rw [← unhide HW4]
  clear q3 hf3 HW4
  have q0 := (unhide HM4).q.c0
  have q1 := (unhide HM4).q.c1
  have q2 := (unhide HM4).q.c2
  have q3 := (unhide HM4).q.c3
  have hbig4 := (unhide HM4).big
  go_wp2_with fail
  refine (unhide KM w4 (unhide HM4).lie ((unhide HT).below (unhide HM4).bel hw0) (by omega)).mono ?_
  rintro _ w5 ⟨rfl, hb5⟩
  clear q0 q1 q2 q3 KM
  obtain ⟨w6, hw6⟩ : ∃ w6, w6 = w5.alloc (.cells #[.int .i64 0, .int .i64 0, .int .i64 0, .int .i64 0, .slice none 0 0, .string ⟨#[]⟩] 26) := ⟨_, rfl⟩
  have HM6 : Hid (MK w w6 P0 R0 V0 L ac cc) := ((unhide HM4).next hb5).next (by rw [hw6]; exact below_alloc _ _)
  have HW6 := hide hw6
  clear hw6 hb5 HM4
  go_upto_region 4 with fail
  rw [← unhide HW6]
  have p3 := (unhide HM6).p.c3
  have q3 := (unhide HM6).q.c3
  go_wp2_with fail
  refine (unhide KB w6 (unhide HM6)).mono ?_
  rintro _ w7 ⟨rfl, hb7⟩
  have HM7 := hide ((unhide HM6).next hb7)
  clear p3 q3 hb7 HM6
  go_wp2_with fail
  go_ret
  exact ⟨rfl, (unhide HM7).bel⟩

set_option maxRecDepth 100000 in
set_option maxHeartbeats 8000000 in
theorem makes_good (P R V K : Nat) (L : List In4) (ac : Option Addr) (cc : Nat) (w : World) (hp : RightP P R V L) (hK : 2 ≤ K) (hK' : K ≤ 16) (hH : HeldIns w ac L) (hT : Tab w) (hw0 : 0 < w.heap.size) :
    Calls Tryd.prog 6 #[.agg #[.int .i64 P, .int .i64 R, .int .i64 V, .slice ac L.length cc], .int .i64 K] w fun e w' => e = .returned (.bool true) ∧ Below w.heap.size w w' := by
  have hn40 := hp.n40
  have hp4 := hp.p4
  have hlen : L.length * 32 ≤ 140737488351232 := by omega
  obtain ⟨w1, w2, hw1, hw2, HP1, HP2, HQ2, HL2, hz1, hz2⟩ := mk_boxes w P R V (.slice ac L.length cc)
  have HW1 := hide hw1
  have HW2 := hide hw2
  have KL := hide (lent_any L ac cc w2 (hH.below' (unhide HL2)) hlen)
  rw [hz2] at KL
  have KM := hide (fun w' (h : HeldIns w' (some ⟨w.heap.size + 2, 0, none⟩) L) (hT : Tab w') (h0 : 0 < w'.heap.size) => made_good P R V K L (some ⟨w.heap.size + 2, 0, none⟩) (L.length + 2) w' hp hK hK' h hT h0)
  have KB := hide (fun w' (h : MK w w' P R V L ac cc) => back_any L (w.heap.size + 2) ac cc w' (hH.below' h.bel) h.lent hlen)
  have hCl : (cmpC P R K L).length ≤ 1000 := by
    rw [cmpC_len]
    have := wTo_len (homS L R K) (homA L R K) K (liveB L 0) P L L.length
    unfold cmpQ; omega
  have hC1 : 1 ≤ (cmpC P R K L).length := by obtain ⟨_, _, h⟩ := rightU_of _ _ _ _ _ _ (congrArg Prod.fst (unit_ok hp hK hK').1); exact h.n1
  have KA := hide (fun w' (h : MK w w' P R V L ac cc) uo uc (hU : HeldIns w' uo (cmpC P R K L)) => allowed_any P R V K L ac uo cc uc hp hK hK' w' (hH.below' h.bel) hU hCl)
  have KC := hide (fun w' (h : MK w w' P R V L ac cc) => compile_right P R V K L ac cc w' (hH.below' h.bel) (hT.below h.bel hw0) (by have := h.big; omega) (by rw [prog_zero hp]) hK hK')
  have KX := hide (fun w' (h : MK w w' P R V L ac cc) => compile_some P R V (K + 1) L ac cc w' hp (by omega) (hH.below' h.bel) (hT.below h.bel hw0) (by have := h.big; omega))
  have hK1 : (((K + 1 : Nat)) : Int) = (K : Int) + 1 := by omega
  rw [hK1] at KX
  unfold MadePost unitV at KM
  unfold CmpPost at KC
  obtain ⟨T, hTe⟩ : ∃ T, T = encT (cmpR P R V K L) := ⟨_, rfl⟩
  obtain ⟨S, hSe⟩ : ∃ S, S = slotsB L P R K := ⟨_, rfl⟩
  obtain ⟨C, hCe⟩ : ∃ C, C = cmpC P R K L := ⟨_, rfl⟩
  rw [← hTe, ← hSe, ← hCe] at KM KC
  rw [← hCe] at KA hCl hC1
  have HT := hide hT
  clear hw1 hw2 hH hT hp hTe hSe hCe
  go_enter Tryd.func6, Tryd.ntmps6
  go_upto_region 1 with fail
  rw [← unhide HW1]
  have p0 := (unhide HP1).c0
  have p1 := (unhide HP1).c1
  have p2 := (unhide HP1).c2
  have p3 := (unhide HP1).c3
  go_upto_region 2 with fail
  rw [← unhide HW2]
  clear p0 p1 p2 p3
  have p3 := (unhide HP2).c3
  go_wp2_with fail
  refine (unhide KL).mono ?_
  rintro _ w3 ⟨rfl, hL3, hb3⟩
  rw [← hz2] at hb3
  have HM4 := hide (mk_lent (unhide HP2) (unhide HQ2) hz2 (unhide HL2) hL3 hb3)
  have hQ3 := (unhide HQ2).below hb3
  have q3 := hQ3.c3
  have hf3 := hQ3.free
  obtain ⟨w4, hw4⟩ : ∃ w4, w4 = w3.setCell ⟨w.heap.size + 1, 3, none⟩ (.slice (some ⟨w.heap.size + 2, 0, none⟩) L.length (L.length + 2)) := ⟨_, rfl⟩
  rw [← hw4] at HM4
  have HW4 := hide hw4
  clear hw4 hQ3 hL3 hb3 p3 HP1 HP2 HQ2 HL2 KL
  go_upto_region 3 with fail
  rw [← unhide HW4]
  clear q3 hf3 HW4
  have q0 := (unhide HM4).q.c0
  have q1 := (unhide HM4).q.c1
  have q2 := (unhide HM4).q.c2
  have q3 := (unhide HM4).q.c3
  have hbig4 := (unhide HM4).big
  go_wp2_with fail
  refine (unhide KM w4 (unhide HM4).lie ((unhide HT).below (unhide HM4).bel hw0) (by omega)).mono ?_
  rintro _ w5 ⟨uo, uc, rfl, hown5, hb5⟩
  clear q0 q1 q2 q3 KM
  obtain ⟨gu, rfl, hgu1, hgu2, huc1, huc2, hblk5⟩ := own_block hown5 hC1
  obtain ⟨w6, hw6, HU6, HL6, hz6⟩ := ubox w5 K S P V (.slice (some ⟨gu, 0, none⟩) C.length uc) T
  have HM6 : Hid (MK w w6 P R V L ac cc) := ((unhide HM4).next hb5).next (unhide HL6)
  have HC6 : Hid (HeldIns w6 (some ⟨gu, 0, none⟩) C) := (held_own hown5).below' (unhide HL6)
  have HG6 : Hid (∃ cur, w6.heap[gu]? = some (.cells cur 77 (0, 0)) ∧ cur.size = uc * 4) := row_of_block hblk5 ((unhide HL6).block gu hgu2)
  have hgu6 : gu < w6.heap.size := by omega
  have hgw : w.heap.size + 3 ≤ gu := by omega
  have HW6 := hide hw6
  clear hw6 hb5 HM4 hown5 hblk5 HL6
  go_upto_region 4 with fail
  rw [← unhide HW6]
  have p3 := (unhide HM6).p.c3
  have q3 := (unhide HM6).q.c3
  go_wp2_with fail
  refine (unhide KB w6 (unhide HM6)).mono ?_
  rintro _ w7 ⟨rfl, hb7⟩
  have HM7 := hide ((unhide HM6).next hb7)
  have HU7 := hide ((unhide HU6).below hb7 (by omega))
  have HC7 : Hid (HeldIns w7 (some ⟨gu, 0, none⟩) C) := (unhide HC6).below' hb7
  have HG7 : Hid (∃ cur, w7.heap[gu]? = some (.cells cur 77 (0, 0)) ∧ cur.size = uc * 4) := row_of_block (unhide HG6) (hb7.block gu hgu6)
  have hz7 := hb7.size
  clear p3 q3 hb7 HM6 HU6 HC6 HG6
  have p0 := (unhide HM7).p.c0
  have p1 := (unhide HM7).p.c1
  have p2 := (unhide HM7).p.c2
  have p3 := (unhide HM7).p.c3
  have u4 := (unhide HU7).c4
  go_wp2_with fail
  refine (unhide KA w7 (unhide HM7) _ _ (unhide HC7)).mono ?_
  rintro _ w8 ⟨rfl, hb8⟩
  have HM8 := hide ((unhide HM7).next hb8)
  have HU8 := hide ((unhide HU7).below hb8 (by omega))
  have HC8 : Hid (HeldIns w8 (some ⟨gu, 0, none⟩) C) := (unhide HC7).below' hb8
  have HG8 : Hid (∃ cur, w8.heap[gu]? = some (.cells cur 77 (0, 0)) ∧ cur.size = uc * 4) := row_of_block (unhide HG7) (hb8.block gu (by omega))
  have hz8 := hb8.size
  clear p0 p1 p2 p3 u4 hb8 HM7 HU7 HC7 HG7 KA
  obtain ⟨w9, w10, hmk, hcp, hb9, hb10, hlie10, hG10, hz9⟩ := kept_copy w8 C (some ⟨gu, 0, none⟩) uc (unhide HC8) hCl
  have HM10 := hide ((unhide HM8).next hb10)
  have HU10 := hide ((unhide HU8).below hb10 (by omega))
  have HG10 : Hid (∃ cur, w10.heap[gu]? = some (.cells cur 77 (0, 0)) ∧ cur.size = uc * 4) := row_of_block (unhide HG8) (hb10.block gu (by omega))
  have HK10 : Hid (LieI w10 w8.heap.size 0 C) := hlie10
  have u4 := (unhide HU8).c4
  have v4 := ((unhide HU8).below hb9 (by omega)).c4
  clear hb9 hb10 hlie10
  go_upto_region 14 with fail
  clear u4 v4 hmk hcp HM8 HU8 HC8 HG8
  have p0 := (unhide HM10).p.c0
  have p1 := (unhide HM10).p.c1
  have p2 := (unhide HM10).p.c2
  have p3 := (unhide HM10).p.c3
  go_wp2_with fail
  refine (unhide KC w10 (unhide HM10)).mono ?_
  rintro _ w11 ⟨vo, vc, rfl, hown11, hb11⟩
  clear p0 p1 p2 p3
  obtain ⟨gv, rfl, hgv1, hgv2, _, _, _⟩ := own_block hown11 hC1
  obtain ⟨w12, hw12, HV12, HL12, hz12⟩ := ubox w11 K S P V (.slice (some ⟨gv, 0, none⟩) C.length vc) T
  have hb12 : Below w10.heap.size w10 w12 := hb11.trans ((unhide HL12).mono hb11.size)
  have hz11 := hb11.size
  have HM12 := hide ((unhide HM10).next hb12)
  have HU12 := hide ((unhide HU10).below hb12 (by omega))
  have HK12 := hide ((unhide HK10).below hb12 hG10)
  have HG12 : Hid (∃ cur, w12.heap[gu]? = some (.cells cur 77 (0, 0)) ∧ cur.size = uc * 4) := row_of_block (unhide HG10) (hb12.block gu (by omega))
  have HC12 : Hid (LieI w12 gv 0 C) := by
    rcases (held_own hown11).below' (unhide HL12) with e | ⟨b', o', e, _, hl⟩
    · rw [e] at hC1; exact absurd hC1 (by decide)
    · injection e with e; injection e with e1 e2; subst e1; subst e2; exact hl
  have HW12 := hide hw12
  clear hw12 hb11 hb12 hown11 HM10 HU10 HK10 HG10 HL12
  go_upto_region 15 with fail
  rw [← unhide HW12]
  have u4 := (unhide HU12).c4
  go_wp2_with fail
  refine (scrawled_any gu C.length uc w12 (unhide HG12) huc1 huc2).mono ?_
  rintro _ w13 ⟨rfl, hk13⟩
  have HM13 := hide ((unhide HM12).keep hk13 (fun i e => by omega))
  have HU13 : Hid (UnB w13 w5.heap.size K S P V (.slice (some ⟨gu, 0, none⟩) C.length uc) T) := (hk13.block w5.heap.size (by omega) (by omega)).trans (unhide HU12)
  have HV13 : Hid (UnB w13 w11.heap.size K S P V (.slice (some ⟨gv, 0, none⟩) C.length vc) T) := (hk13.block w11.heap.size (by omega) (by omega)).trans (unhide HV12)
  have HK13 : Hid (LieI w13 w8.heap.size 0 C) := lie_block (unhide HK12) (hk13.block _ (by omega) (by omega))
  have HC13 : Hid (LieI w13 gv 0 C) := lie_block (unhide HC12) (hk13.block _ (by omega) (by omega))
  have hz13 := hk13.size
  clear u4 hk13 HM12 HU12 HV12 HK12 HC12 HG12 HW12
  have v4 := (unhide HV13).c4
  go_wp2_with fail
  refine (sameCode_any C (some ⟨gv, 0, none⟩) (some ⟨w8.heap.size, 0, none⟩) vc C.length w13 (.inr ⟨_, _, rfl, by omega, unhide HC13⟩) (.inr ⟨_, _, rfl, by omega, unhide HK13⟩) (by omega)).mono ?_
  rintro _ w14 ⟨rfl, hb14⟩
  have HM14 := hide ((unhide HM13).next hb14)
  have HU14 := hide ((unhide HU13).below hb14 (by omega))
  have HK14 := hide ((unhide HK13).below hb14 (by omega))
  have hz14 := hb14.size
  clear v4 hb14 HM13 HU13 HV13 HK13 HC13
  have p3 := (unhide HM14).p.c3
  have q3 := (unhide HM14).q.c3
  go_wp2_with fail
  refine (unhide KB w14 (unhide HM14)).mono ?_
  rintro _ w15 ⟨rfl, hb15⟩
  have HM15 := hide ((unhide HM14).next hb15)
  have HU15 := hide ((unhide HU14).below hb15 (by omega))
  have HK15 := hide ((unhide HK14).below hb15 (by omega))
  have hz15 := hb15.size
  clear p3 q3 hb15 HM14 HU14 HK14 KB
  have p0 := (unhide HM15).p.c0
  have p1 := (unhide HM15).p.c1
  have p2 := (unhide HM15).p.c2
  have p3 := (unhide HM15).p.c3
  have wK : IntKind.i64.wrap ((K : Int) + 1) = (K : Int) + 1 := by rw [IntKind.wrap_i64]; omega
  go_wp2_with fail
  refine (unhide KX w15 (unhide HM15)).mono ?_
  rintro _ w16 ⟨⟨vx, rfl⟩, hb16⟩
  have HM16 := hide ((unhide HM15).next hb16)
  have HU16 := hide ((unhide HU15).below hb16 (by omega))
  have HK16 := hide ((unhide HK15).below hb16 (by omega))
  have hz16 := hb16.size
  clear p0 p1 p2 p3 hb16 HM15 HU15 HK15 KX
  have p0 := (unhide HM16).p.c0
  have p1 := (unhide HM16).p.c1
  have p2 := (unhide HM16).p.c2
  have p3 := (unhide HM16).p.c3
  go_wp2_with fail
  refine (unhide KC w16 (unhide HM16)).mono ?_
  rintro _ w17 ⟨xo, xc, rfl, hown17, hb17⟩
  clear p0 p1 p2 p3
  obtain ⟨w18, hw18, HV18, HL18, hz18⟩ := ubox w17 K S P V (.slice xo C.length xc) T
  have hb18 : Below w16.heap.size w16 w18 := hb17.trans ((unhide HL18).mono hb17.size)
  have hz17 := hb17.size
  have HM18 := hide ((unhide HM16).next hb18)
  have HU18 := hide ((unhide HU16).below hb18 (by omega))
  have HK18 := hide ((unhide HK16).below hb18 (by omega))
  have HC18 : Hid (HeldIns w18 xo C) := (held_own hown17).below' (unhide HL18)
  have HW18 := hide hw18
  clear hw18 hb17 hb18 hown17 HM16 HU16 HK16 HL18 KC
  go_upto_region 22 with fail
  rw [← unhide HW18]
  have v4 := (unhide HV18).c4
  go_wp2_with fail
  refine (sameCode_any C xo (some ⟨w8.heap.size, 0, none⟩) xc C.length w18 (unhide HC18) (.inr ⟨_, _, rfl, by omega, unhide HK18⟩) (by omega)).mono ?_
  rintro _ w19 ⟨rfl, hb19⟩
  have HM19 := hide ((unhide HM18).next hb19)
  have HU19 := (unhide HU18).below hb19 (by omega)
  have HV19 := (unhide HV18).below hb19 (by omega)
  clear v4 hb19 HM18 HU18 HV18 HK18 HC18 HW18
  have u1 := HU19.c1
  have u5 := HU19.c5
  have v1 := HV19.c1
  have v5 := HV19.c5
  clear HU19 HV19
  go_wp2_with fail
  go_ret
  exact ⟨rfl, (unhide HM19).bel⟩

theorem makes_walk (P0 R0 V0 : Int) (L : List In4) (ac : Option Addr) (cc : Nat) (k : Int) (w : World) (hH : HeldIns w ac L) (hlen : L.length * 32 ≤ 140737488351232) (hT : Tab w) (hw0 : 0 < w.heap.size) :
    Calls Tryd.prog 6 #[.agg #[.int .i64 P0, .int .i64 R0, .int .i64 V0, .slice ac L.length cc], .int .i64 k] w fun e w' => e = .returned (.bool true) ∧ Below w.heap.size w w' := by
  by_cases hE : cmpE P0 R0 V0 k L = 0
  case neg => exact makes_bad P0 R0 V0 L ac cc k w hH hlen hT hw0 hE
  unfold cmpE at hE
  by_cases h1 : (progE P0 R0 V0 L).1 = 0
  case neg => rw [if_pos h1] at hE; exact absurd hE h1
  rw [if_neg (fun h => h h1)] at hE
  by_cases h2 : k < 2 ∨ 16 < k
  case pos => rw [if_pos h2] at hE; cases hE
  have hp := rightP_of P0 R0 V0 L h1
  obtain ⟨P, rfl⟩ : ∃ P : Nat, P0 = P := ⟨P0.toNat, by have := hp.p0; omega⟩
  obtain ⟨R, rfl⟩ : ∃ R : Nat, R0 = R := ⟨R0.toNat, by have := hp.r1; omega⟩
  obtain ⟨V, rfl⟩ : ∃ V : Nat, V0 = V := ⟨V0.toNat, by have := hp.v0; omega⟩
  obtain ⟨K, rfl⟩ : ∃ K : Nat, k = K := ⟨k.toNat, by omega⟩
  exact makes_good P R V K L ac cc w hp (by omega) (by omega) hH hT hw0
end Go.Proofs.YtoepcplbpochpaaDoor
