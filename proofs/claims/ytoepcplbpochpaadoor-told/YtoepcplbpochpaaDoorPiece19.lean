/-
  From a program to a unit: lodge.Compile.
-/
import Derived.Test.YtoepcplbpochpaaDoorPiece17
import Derived.Test.YtoepcplbpochpaaDoorPiece18
import Derived.Test.YtoepcplbpochpaaDoorPiece2
import Derived.Test.YtoepcplbpochpaaDoorPiece6
import Derived.Test.YtoepcplbpochpaaDoorPiece1
import Derived.Test.YtoepcplbpochpaaDoorPiece15
import Derived.Deep.RegionHeld3
import Derived.Handy
import Derived.Test.YtoepcplbpochpaaDoorPiece16

namespace Go.Proofs.YtoepcplbpochpaaDoor
open Go.RowKit

theorem Tryd.size117 : (Tryd.prog.info? 117).map (·.size) = some 66 := by kernel_rfl
theorem wrV_plain (hs : Nat → Bool) (ha : Nat → Nat) (K : Nat) (st : Nat → Nat) (ao : Option Addr) (n cap : Nat) : ∀ i, i < 66 → (wrV hs ha K (.slice ao n cap) st i).oneCell' = true := fun i _ => by
  unfold wrV
  split
  · unfold homV; split <;> rfl
  split
  · rfl
  split <;> rfl
/-- Forty numbers in the midst of a block. -/
def cells40 (st : Nat → Nat) : List Value := (List.range 40).map (numV st)
theorem range40 {w : World} {B : Nat} {hs : Nat → Bool} {ha : Nat → Nat} {K : Nat} {st : Nat → Nat} {C : List In4} {sv : Value} (h : WrB w B hs ha K st C sv) : w.rangeAt B 26 (cells40 st) := fun j v hv => by
  unfold cells40 at hv
  have hj : j < 40 := by
    rcases Nat.lt_or_ge j 40 with h | h
    · exact h
    · rw [List.getElem?_eq_none (by simp; exact h)] at hv; cases hv
  rw [List.getElem?_map, List.getElem?_range hj] at hv
  rw [h.starts hj]
  exact hv
theorem size40 (st : Nat → Nat) : (Tryd.prog.info? 115).map (·.size) = some (cells40 st).length := by
  unfold cells40; rw [List.length_map, List.length_range]; exact Tryd.size115
theorem agg40 (st : Nat → Nat) : Value.agg (cells40 st).toArray = .agg (rowA 40 (numV st)) := rfl
/-- The bytes of a table. -/
def encT (R : List Rg) : ByteArray := if isTab R = true then encAll R else ByteArray.empty
def encX (R : List Rg) : Int := if isTab R = true then 0 else 10
theorem encV_eq (R : List Rg) : encV R = .tuple #[.string (encT R), .int .i64 (encX R)] := by
  unfold encV encT encX; split <;> rfl
theorem Tryd.size26 : (Tryd.prog.info? 26).map (·.size) = some 6 := by kernel_rfl
theorem results_unit {fn : Func} {p q : Tmp} (h : fn.results = #[.cell p 26, .tmp q]) (tmps : Array Value) (w : World) (g : Nat) (cs : Array Value) (hp : tmps.getD p undef = .pointer (some ⟨g, 0, none⟩)) (hg : w.heap[g]? = some (.cells cs 26 (0, 0))) (hn : cs.size = 6) :
    (results fn tmps).run Tryd.prog w = .ok (.tuple #[.agg cs, tmps.getD q undef]) w := by
  have hp' : tmps[p]?.getD undef = .pointer (some ⟨g, 0, none⟩) := by simpa using hp
  simp [results, h, hp', asAddr, run_loadVar_row w g 26 26 cs (0, 0) _ hg Tryd.underlying26 rfl (by rw [hn]; exact Tryd.size26)]
theorem set6 {w : World} {g : Nat} {z0 z1 z2 z3 z4 z5 : Value} (h : w.heap[g]? = some (.cells #[z0, z1, z2, z3, z4, z5] 26 (0, 0))) (a b c d e f : Value) :
    ((((((w.setCell ⟨g, 0, none⟩ a).setCell ⟨g, 1, none⟩ b).setCell ⟨g, 2, none⟩ c).setCell ⟨g, 3, none⟩ d).setCell ⟨g, 4, none⟩ e).setCell ⟨g, 5, none⟩ f).heap[g]? = some (.cells #[a, b, c, d, e, f] 26 (0, 0)) := by
  rw [heap_setCell_same _ g 5 _ 26 f (heap_setCell_same _ g 4 _ 26 e (heap_setCell_same _ g 3 _ 26 d (heap_setCell_same _ g 2 _ 26 c (heap_setCell_same _ g 1 _ 26 b (heap_setCell_same w g 0 _ 26 a h)))))]; rfl
theorem keep6 (w : World) (g : Nat) (a b c d e f : Value) : Keep (fun k => k = g) w ((((((w.setCell ⟨g, 0, none⟩ a).setCell ⟨g, 1, none⟩ b).setCell ⟨g, 2, none⟩ c).setCell ⟨g, 3, none⟩ d).setCell ⟨g, 4, none⟩ e).setCell ⟨g, 5, none⟩ f) :=
  keep_set (keep_set (keep_set (keep_set (keep_set (keep_set (Keep.refl _ _) _ _) _ _) _ _) _ _) _ _) _ _
/-- The head of Compile. -/
theorem open_cmp (w : World) (P R V : Int) (sl : Value) : ∃ w1, w1 = (w.alloc (.cells #[.int .i64 P, .int .i64 R, .int .i64 V, sl] 24)).alloc (.cells #[.int .i64 0, .int .i64 0, .int .i64 0, .int .i64 0, .slice none 0 0, .string ⟨#[]⟩] 26) ∧
    Hid (ProgB w1 w.heap.size P R V sl) ∧ Hid (w1.heap[w.heap.size + 1]? = some (.cells #[.int .i64 0, .int .i64 0, .int .i64 0, .int .i64 0, .slice none 0 0, .string ⟨#[]⟩] 26 (0, 0))) ∧ Hid (Below w.heap.size w w1) ∧ w.heap.size + 1 < w1.heap.size := by
  refine ⟨_, rfl, ?_, two_new _ _ _, ?_, by simp⟩
  · exact (progb_alloc w P R V sl).below (below_alloc _ _)
  · exact (below_alloc _ _).alloc (by simp) _

/-- The unit's code and its table. -/
def cmpC (P R K : Nat) (L : List In4) : List In4 := codeB (homS L R K) (homA L R K) K (liveB L 0) P L
def cmpR (P R V K : Nat) (L : List In4) : List Rg := rngV (homS L R K) (homA L R K) (stF (homS L R K) (homA L R K) K (liveB L 0) P L L.length) L V
/-- What Compile leaves behind. -/
def CmpPost (w : World) (P R V K : Nat) (L : List In4) (e : Ending) (w' : World) : Prop :=
  ∃ ao cap, e = .returned (.tuple #[.agg #[.int .i64 K, .int .i64 (slotsB L P R K), .int .i64 P, .int .i64 V, .slice ao (cmpC P R K L).length cap, .string (encT (cmpR P R V K L))], .int .i64 0]) ∧
    w'.ownsRow w.heap.size 77 4 (.slice ao (cmpC P R K L).length cap) (cmpC P R K L).length (insCells (cmpC P R K L)) ∧ Below w.heap.size w w'

set_option maxRecDepth 100000 in
set_option maxHeartbeats 8000000 in
theorem compile_right (P R V K : Nat) (L : List In4) (ao : Option Addr) (cap : Nat) (w : World) (hH : HeldIns w ao L) (hT : Tab w) (hw0 : 0 < w.heap.size) (hE : (progE P R V L).1 = 0) (hK : 2 ≤ K) (hK' : K ≤ 16) :
    Calls Tryd.prog 27 #[.agg #[.int .i64 P, .int .i64 R, .int .i64 V, .slice ao L.length cap], .int .i64 K] w (CmpPost w P R V K L) := by
  have hp := rightP_of P R V L hE
  have hL := right_inside hp
  have hn1 := hp.n1
  have hn40 := hp.n40
  have hR12 : R ≤ 12 := by have := hp.r12; omega
  obtain ⟨b, off, rfl, hb, hI⟩ := held_at hH hn1
  have KC := hide (fun w (hH : HeldIns w (some ⟨b, off, none⟩) L) (hT : Tab w) (hw0 : 0 < w.heap.size) => irCheck_any P R V L (some ⟨b, off, none⟩) cap w hH (by omega) hT hw0)
  have KL := hide (fun w (hH : HeldIns w (some ⟨b, off, none⟩) L) => findLive_any L (some ⟨b, off, none⟩) cap w hH hL hn1 hn40)
  have hwr : ∀ i, i < L.length → isWr (inAt L i).op = true → 0 ≤ (inAt L i).d ∧ (inAt L i).d < 12 ∧ i + 1 < L.length := fun i hi hw => by
    obtain ⟨h1, h2, h3⟩ := right_wr hp i hi hw; exact ⟨h1, by omega, h3⟩
  have KH := hide (fun w (hH : HeldIns w (some ⟨b, off, none⟩) L) => homes_any P V R K L (some ⟨b, off, none⟩) cap w hH hR12 hK hK' hn1 hn40 hwr)
  rw [hE] at KC
  obtain ⟨w1, hw1, HP1, HR1, HL1, hz1⟩ := open_cmp w P R V (.slice (some ⟨b, off, none⟩) L.length cap)
  have HW := hide hw1
  have HH := hide hH
  have HT := hide hT
  clear hw1 hH hT hI
  go_enter Tryd.func27, Tryd.ntmps27
  go_upto_region 1 with fail
  rw [← unhide HW]
  have p0 := (unhide HP1).c0
  have p1 := (unhide HP1).c1
  have p2 := (unhide HP1).c2
  have p3 := (unhide HP1).c3
  go_wp2_with fail
  refine (unhide KC w1 ((unhide HH).below (unhide HL1)) ((unhide HT).below (unhide HL1) hw0) (by omega)).mono ?_
  rintro e w2 ⟨rfl, hb2⟩
  have HP2 := hide ((unhide HP1).below hb2)
  have HR2 : Hid (w2.heap[w.heap.size + 1]? = some (.cells #[.int .i64 0, .int .i64 0, .int .i64 0, .int .i64 0, .slice none 0 0, .string ⟨#[]⟩] 26 (0, 0))) := (hb2.block _ hz1).trans (unhide HR1)
  have HL2 : Hid (Below w.heap.size w w2) := (unhide HL1).trans (hb2.mono (unhide HL1).size)
  have hz2 : w.heap.size + 1 < w2.heap.size := Nat.lt_of_lt_of_le hz1 hb2.size
  clear hb2 p0 p1 p2 p3 HP1 HR1 HL1 hz1 KC HW
  have p3 := (unhide HP2).c3
  have KL' := hide (unhide KL w2 ((unhide HH).below (unhide HL2)))
  have hKi : (K : Int) ≤ 16 := by omega
  have hKi2 : (2 : Int) ≤ K := by omega
  go_wp2_with fail
  refine (unhide KL').mono ?_
  rintro e w3 ⟨rfl, hb3⟩
  have HP3 := hide ((unhide HP2).below hb3)
  have HR3 : Hid (w3.heap[w.heap.size + 1]? = some (.cells #[.int .i64 0, .int .i64 0, .int .i64 0, .int .i64 0, .slice none 0 0, .string ⟨#[]⟩] 26 (0, 0))) := (hb3.block _ hz2).trans (unhide HR2)
  have HL3 : Hid (Below w.heap.size w w3) := (unhide HL2).trans (hb3.mono (unhide HL2).size)
  have hz3 : w.heap.size + 1 < w3.heap.size := Nat.lt_of_lt_of_le hz2 hb3.size
  clear hb3 p3 HP2 HR2 HL2 hz2 KL KL'
  go_upto_region 7 with (refine wpList_store_row ?h1 108 ?h2 ?h3 ?h4 w3.heap.size ?h5 ?h6 ?h7 ?h8 ?h9 ?h10 ?h11 ?h12 ?h13 ?h14; case h4 => rfl)
  case h1 => rfl
  case h6 => rfl
  case h7 => rfl
  case h10 => exact heap_alloc_new _ _
  case h11 => rw [rowA_size]; exact Tryd.size108
  case h12 => rw [rowA_size, zero108, rowA_size]
  case h13 => exact rowA_plain (gridV_plain _)
  rw [World.setRow_alloc_new]
  obtain ⟨w4, hw4, HV4, HL4', hz4⟩ := box_row w3 108 480 (gridV (liveB L))
  rw [← hw4]
  have HP4 := hide ((unhide HP3).below (unhide HL4'))
  have HR4 : Hid (w4.heap[w.heap.size + 1]? = some (.cells #[.int .i64 0, .int .i64 0, .int .i64 0, .int .i64 0, .slice none 0 0, .string ⟨#[]⟩] 26 (0, 0))) := ((unhide HL4').block _ hz3).trans (unhide HR3)
  have HL4 : Hid (Below w.heap.size w w4) := (unhide HL3).trans ((unhide HL4').mono (unhide HL3).size)
  clear hw4 HP3 HR3 HL3 HL4'
  have p0 := (unhide HP4).c0
  have p1 := (unhide HP4).c1
  have p2 := (unhide HP4).c2
  have p3 := (unhide HP4).c3
  have KH' := hide (unhide KH w4 ((unhide HH).below (unhide HL4)))
  have HVr := HV4
  iterate 60 (first | (refine wpList_load_row rfl 108 _ rfl w3.heap.size rfl 108 _ (0, 0) _ (unhide HVr) Tryd.underlying108 rfl (by rw [rowA_size]; exact Tryd.size108) ?_; clear HVr) | go_values | go_skip | go_guarded | go_step | skip)
  refine (unhide KH').mono ?_
  rintro e w5 ⟨rfl, hb5⟩
  have HP5 := hide ((unhide HP4).below hb5)
  have HV5 := hide ((unhide HV4).below hb5)
  have HR5 : Hid (w5.heap[w.heap.size + 1]? = some (.cells #[.int .i64 0, .int .i64 0, .int .i64 0, .int .i64 0, .slice none 0 0, .string ⟨#[]⟩] 26 (0, 0))) := (hb5.block _ (by omega)).trans (unhide HR4)
  have HL5 : Hid (Below w.heap.size w w5) := (unhide HL4).trans (hb5.mono (unhide HL4).size)
  have hz5 : w3.heap.size < w5.heap.size := Nat.lt_of_lt_of_le hz4 hb5.size
  clear hb5 p0 p1 p2 p3 KH' HP4 HV4 HR4 HL4 KH
  obtain ⟨w6, hw6, HM6, HL6', hz6⟩ := box_row w5 113 24 (homV (homS L R K) (homA L R K))
  have HW6 := hide hw6
  have HP6 := hide ((unhide HP5).below (unhide HL6'))
  have HV6 := hide ((unhide HV5).below (unhide HL6'))
  have HR6 : Hid (w6.heap[w.heap.size + 1]? = some (.cells #[.int .i64 0, .int .i64 0, .int .i64 0, .int .i64 0, .slice none 0 0, .string ⟨#[]⟩] 26 (0, 0))) := ((unhide HL6').block _ (by omega)).trans (unhide HR5)
  have HL6 : Hid (Below w.heap.size w w6) := (unhide HL5).trans ((unhide HL6').mono (unhide HL5).size)
  have HZZ := hide (World.setRow_alloc_new w5 (#[.bool false, .int .i64 0, .bool false, .int .i64 0, .bool false, .int .i64 0, .bool false, .int .i64 0, .bool false, .int .i64 0, .bool false, .int .i64 0, .bool false, .int .i64 0, .bool false, .int .i64 0, .bool false, .int .i64 0, .bool false, .int .i64 0, .bool false, .int .i64 0, .bool false, .int .i64 0] : Array Value) (rowA 24 (homV (homS L R K) (homA L R K))) 113)
  clear hw6 HP5 HV5 HR5 HL5 HL6'
  have HMr := HM6
  dsimp only
  iterate 13 (first | (refine wpList_store_row rfl 113 _ _ rfl w5.heap.size (rowA 24 (homV (homS L R K) (homA L R K))) rfl rfl 113 (#[.bool false, .int .i64 0, .bool false, .int .i64 0, .bool false, .int .i64 0, .bool false, .int .i64 0, .bool false, .int .i64 0, .bool false, .int .i64 0, .bool false, .int .i64 0, .bool false, .int .i64 0, .bool false, .int .i64 0, .bool false, .int .i64 0, .bool false, .int .i64 0, .bool false, .int .i64 0]) (heap_alloc_new _ _) (by rw [rowA_size]; exact Tryd.size113) (by rw [rowA_size]; rfl) (rowA_plain (homV_plain _ _)) ?_; rw [unhide HZZ, ← unhide HW6]; clear HZZ) | (refine wpList_load_row rfl 113 _ rfl w5.heap.size rfl 113 _ (0, 0) _ (unhide HMr) Tryd.underlying113 rfl (by rw [rowA_size]; exact Tryd.size113) ?_; clear HMr) | go_values | go_skip | go_guarded | go_step | skip)
  (first | go_values | go_skip | go_guarded | go_step | skip)
  refine wpList_buildTo (by rfl) 117 _ (by rfl) (some 40) (by rfl) (rowA 66 (wrV (homS L R K) (homA L R K) K (.slice none 0 0) (fun _ => 0))) ?hf ?_
  case hf => exact (congrArg (Tryd.prog.built 117) (by rw [List.map_toArray]; rfl)).trans (built117 (homS L R K) (homA L R K) K)
  simp only [Act.put, List.setIfInBounds_toArray, List.set_cons_zero, List.set_cons_succ]
  obtain ⟨w7, hw7, HW7, HL7', hz7⟩ := box_row w6 117 66 (wrV (homS L R K) (homA L R K) K (.slice none 0 0) (fun _ => 0))
  have HWW := hide hw7
  have HP7 := hide ((unhide HP6).below (unhide HL7'))
  have HV7 := hide ((unhide HV6).below (unhide HL7'))
  have HM7 := hide ((unhide HM6).below (unhide HL7'))
  have HR7 : Hid (w7.heap[w.heap.size + 1]? = some (.cells #[.int .i64 0, .int .i64 0, .int .i64 0, .int .i64 0, .slice none 0 0, .string ⟨#[]⟩] 26 (0, 0))) := ((unhide HL7').block _ (by omega)).trans (unhide HR6)
  have HL7 : Hid (Below w.heap.size w w7) := (unhide HL6).trans ((unhide HL7').mono (unhide HL6).size)
  clear hw7 HP6 HV6 HM6 HR6 HL6 HL7'
  iterate 3 (first | go_values | go_skip | go_guarded | go_step)
  refine wpList_store_row (by rfl) 117 _ _ (by rfl) w6.heap.size (rowA 66 (wrV (homS L R K) (homA L R K) K (.slice none 0 0) (fun _ => 0))) (by rfl) (by rfl) 117 _ (heap_alloc_new _ _) (by rw [rowA_size]; exact Tryd.size117) (by rw [rowA_size]; rfl) (rowA_plain (wrV_plain _ _ _ _ _ _ _)) ?_
  rw [World.setRow_alloc_new, ← unhide HWW]
  have HX0 := hide (range12 (unhide HV7) 0 (by omega))
  rw [Nat.zero_mul] at HX0
  have HB7 : Hid (WrB w7 w6.heap.size (homS L R K) (homA L R K) K (fun _ => 0) [] (.slice none 0 0)) := ⟨unhide HW7, rfl, .inl ⟨rfl, rfl⟩⟩
  have KW := hide (writeProg_any w6.heap.size (homS L R K) (homA L R K) K (.slice none 0 0) P R V L (some ⟨b, off, none⟩) cap (liveB L 0) w7 (unhide HB7) hK hK' hp ((unhide HH).below (unhide HL7)) (fun b' off' e => by injection e with e; injection e with e1 e2; omega))
  have p0 := (unhide HP7).c0
  have p1 := (unhide HP7).c1
  have p2 := (unhide HP7).c2
  have p3 := (unhide HP7).c3
  clear HW7 HWW
  iterate 30 (first | (refine wpList_load_mid (by rfl) 105 _ (by rfl) w3.heap.size 0 (by rfl) (cells12 (liveB L 0)) _ (unhide HX0) Tryd.underlying105 rfl (size12 _) ?_; rw [agg12]; clear HX0) | go_values | go_skip | go_guarded | go_step | skip)
  refine (unhide KW).mono ?_
  rintro e w8 ⟨rfl, sv8, hw8, hs8⟩
  have hu8 := hs8.under (unhide HB7)
  have HB8 := hide hw8
  have HU8 := hide hu8
  have hz78 : w7.heap.size ≤ w8.heap.size := hs8.keep.size
  have HP8 : Hid (ProgB w8 w.heap.size P R V (.slice (some ⟨b, off, none⟩) L.length cap)) := (hu8.block _ (by omega)).trans (unhide HP7)
  have HV8 := hide ((unhide HV7).of_block (hu8.block _ (by omega)))
  have HM8 := hide ((unhide HM7).of_block (hu8.block _ (by omega)))
  have HR8 : Hid (w8.heap[w.heap.size + 1]? = some (.cells #[.int .i64 0, .int .i64 0, .int .i64 0, .int .i64 0, .slice none 0 0, .string ⟨#[]⟩] 26 (0, 0))) := (hu8.block _ (by omega)).trans (unhide HR7)
  have HL8 : Hid (Below w.heap.size w w8) := (unhide HL7).trans (hu8.mono (by omega))
  have hn0 : w3.heap.size < w6.heap.size := by omega
  clear hw8 hs8 hu8 HB7 HP7 HV7 HM7 HR7 HL7 KW p0 p1 p2 p3
  obtain ⟨st, hst⟩ : ∃ st, st = stF (homS L R K) (homA L R K) K (liveB L 0) P L L.length := ⟨_, rfl⟩
  rw [← hst] at HB8
  have HSTL : Hid (∀ i, st i ≤ 1000) := fun i => by
    rw [hst]; unfold stF
    split
    · have := wTo_len (homS L R K) (homA L R K) K (liveB L 0) P L i; have := hp.p4; omega
    · omega
  have HSTE := hide hst
  clear hst
  have HX8 := hide (range40 (unhide HB8))
  have KR := hide (ranges_any P R V L (some ⟨b, off, none⟩) cap (homS L R K) (homA L R K) st w8 ((unhide HH).below (unhide HL8)) hL (by have := hp.v4; omega) hn1 hn40 (unhide HSTL) (fun i v _ _ h3 => by have := fact_reg hp i v h3; omega))
  have p0 := (unhide HP8).c0
  have p1 := (unhide HP8).c1
  have p2 := (unhide HP8).c2
  have p3 := (unhide HP8).c3
  have HVr := HV8
  have HMr := HM8
  dsimp only
  iterate 40 (first | (refine wpList_load_mid (by rfl) 115 _ (by rfl) w6.heap.size 26 (by rfl) (cells40 st) _ (unhide HX8) Tryd.underlying115 rfl (size40 _) ?_; rw [agg40]; clear HX8) | (refine wpList_load_row (by rfl) 108 _ (by rfl) w3.heap.size (by rfl) 108 _ (0, 0) _ (unhide HVr) Tryd.underlying108 rfl (by rw [rowA_size]; exact Tryd.size108) ?_; clear HVr) | (refine wpList_load_row (by rfl) 113 _ (by rfl) w5.heap.size (by rfl) 113 _ (0, 0) _ (unhide HMr) Tryd.underlying113 rfl (by rw [rowA_size]; exact Tryd.size113) ?_; clear HMr) | go_values | go_skip | go_guarded | go_step | skip)
  refine (unhide KR).mono ?_
  rintro e w9 ⟨sv9, rfl, hw9, hb9⟩
  obtain ⟨ao9, cap9, rfl, hH9, hl9, _, _⟩ := own_held hw9
  have HB9 := hide ((unhide HB8).below hb9)
  have HP9 := hide ((unhide HP8).below hb9)
  have HM9 := hide ((unhide HM8).below hb9)
  have HR9 : Hid (w9.heap[w.heap.size + 1]? = some (.cells #[.int .i64 0, .int .i64 0, .int .i64 0, .int .i64 0, .slice none 0 0, .string ⟨#[]⟩] 26 (0, 0))) := (hb9.block _ (by omega)).trans (unhide HR8)
  have HL9 : Hid (Below w.heap.size w w9) := (unhide HL8).trans (hb9.mono (unhide HL8).size)
  have hz89 : w8.heap.size ≤ w9.heap.size := hb9.size
  have KE := hide (encode_any _ ao9 cap9 w9 hH9 (by unfold maxLen at hl9; omega))
  rw [encV_eq] at KE
  clear hw9 hb9 hH9 hl9 KR HB8 HP8 HV8 HM8 HR8 HL8 p0 p1 p2 p3 HU8
  obtain ⟨RR, hRR⟩ : ∃ RR, RR = rngV (homS L R K) (homA L R K) st L V := ⟨_, rfl⟩
  rw [← hRR] at KE ⊢
  have HRR := hide hRR
  clear hRR
  go_wp2_with fail
  refine (unhide KE).mono ?_
  rintro e wA ⟨rfl, hbA⟩
  have HBA := hide ((unhide HB9).below hbA)
  have HPA := hide ((unhide HP9).below hbA)
  have HMA := hide ((unhide HM9).below hbA)
  have HRA : Hid (wA.heap[w.heap.size + 1]? = some (.cells #[.int .i64 0, .int .i64 0, .int .i64 0, .int .i64 0, .slice none 0 0, .string ⟨#[]⟩] 26 (0, 0))) := (hbA.block _ (by omega)).trans (unhide HR9)
  have HLA : Hid (Below w.heap.size w wA) := (unhide HL9).trans (hbA.mono (unhide HL9).size)
  have hz9A : w9.heap.size ≤ wA.heap.size := hbA.size
  clear hbA KE HB9 HP9 HM9 HR9 HL9
  have KS := hide (slots_any V P R (.slice (some ⟨b, off, none⟩) L.length cap) (homS L R K) (homA L R K) hR12 (by have := hp.pr; omega) wA)
  have p0 := (unhide HPA).c0
  have p1 := (unhide HPA).c1
  have p2 := (unhide HPA).c2
  have p3 := (unhide HPA).c3
  have HMr := HMA
  dsimp only
  iterate 40 (first | (refine wpList_load_row (by rfl) 113 _ (by rfl) w5.heap.size (by rfl) 113 _ (0, 0) _ (unhide HMr) Tryd.underlying113 rfl (by rw [rowA_size]; exact Tryd.size113) ?_; clear HMr) | go_values | go_skip | go_guarded | go_step | skip)
  refine (unhide KS).mono ?_
  rintro e wB ⟨rfl, hbB⟩
  have HBB := hide ((unhide HBA).below hbB)
  have HPB := hide ((unhide HPA).below hbB)
  have HRB : Hid (wB.heap[w.heap.size + 1]? = some (.cells #[.int .i64 0, .int .i64 0, .int .i64 0, .int .i64 0, .slice none 0 0, .string ⟨#[]⟩] 26 (0, 0))) := (hbB.block _ (by omega)).trans (unhide HRA)
  have HLB : Hid (Below w.heap.size w wB) := (unhide HLA).trans (hbB.mono (unhide HLA).size)
  clear hbB KS HBA HPA HMA HRA HLA p0 p1 p2 p3
  have p0 := (unhide HPB).c0
  have p2 := (unhide HPB).c2
  obtain ⟨ao8, cap8, rfl⟩ := (unhide HBB).shape
  have c25 := (unhide HBB).sv
  have r0 : wB.cell? ⟨w.heap.size + 1, 0, none⟩ = some (.int .i64 0) := (cell_of_row wB _ 0 _ 26 (0, 0) (unhide HRB)).trans rfl
  have r1 : wB.cell? ⟨w.heap.size + 1, 1, none⟩ = some (.int .i64 0) := (cell_of_row wB _ 1 _ 26 (0, 0) (unhide HRB)).trans rfl
  have r2 : wB.cell? ⟨w.heap.size + 1, 2, none⟩ = some (.int .i64 0) := (cell_of_row wB _ 2 _ 26 (0, 0) (unhide HRB)).trans rfl
  have r3 : wB.cell? ⟨w.heap.size + 1, 3, none⟩ = some (.int .i64 0) := (cell_of_row wB _ 3 _ 26 (0, 0) (unhide HRB)).trans rfl
  have r4 : wB.cell? ⟨w.heap.size + 1, 4, none⟩ = some (.slice none 0 0) := (cell_of_row wB _ 4 _ 26 (0, 0) (unhide HRB)).trans rfl
  have r5 : wB.cell? ⟨w.heap.size + 1, 5, none⟩ = some (.string ⟨#[]⟩) := (cell_of_row wB _ 5 _ 26 (0, 0) (unhide HRB)).trans rfl
  have rf : ∀ o, wB.frozen? ⟨w.heap.size + 1, o, none⟩ = false := fun o => by have h := unhide HRB; simp [World.frozen?, h]
  go_wp2_with fail
  have HQ : Hid (CmpPost w P R V K L (.returned (.tuple #[.agg #[.int .i64 K, .int .i64 (slTo (homS L R K) P (R - P)), .int .i64 P, .int .i64 V, .slice ao8 (codeB (homS L R K) (homA L R K) K (liveB L 0) P L).length cap8, .string (encT RR)], .int .i64 0])) ((((((wB.setCell ⟨w.heap.size + 1, 0, none⟩ (.int .i64 K)).setCell ⟨w.heap.size + 1, 1, none⟩ (.int .i64 (slTo (homS L R K) P (R - P)))).setCell ⟨w.heap.size + 1, 2, none⟩ (.int .i64 P)).setCell ⟨w.heap.size + 1, 3, none⟩ (.int .i64 V)).setCell ⟨w.heap.size + 1, 4, none⟩ (.slice ao8 (codeB (homS L R K) (homA L R K) K (liveB L 0) P L).length cap8)).setCell ⟨w.heap.size + 1, 5, none⟩ (.string (encT RR)))) := by
    have hk := keep6 wB (w.heap.size + 1) (.int .i64 K) (.int .i64 (slTo (homS L R K) P (R - P))) (.int .i64 P) (.int .i64 V) (.slice ao8 (codeB (homS L R K) (homA L R K) K (liveB L 0) P L).length cap8) (.string (encT RR))
    refine ⟨ao8, cap8, ?_, ?_, ?_⟩
    · rw [unhide HRR, unhide HSTE]; rfl
    · exact own_keep (own_weakR (unhide HBB).own (by omega)) hk (fun g hg e => by have := (own_in (unhide HBB).own g hg).1; omega)
    · exact (unhide HLB).trans (hk.below (unhide HLB).size (fun k hk e => by omega))
  refine bodyPost_ret (results_unit rfl _ _ (w.heap.size + 1) _ rfl (set6 (unhide HRB) _ _ _ _ _ _) rfl) rfl ?_
  exact unhide HQ
end Go.Proofs.YtoepcplbpochpaaDoor

/-
  Units as plain data: the error of a unit, and its place; what mach.isSize and mach.isRange answer.
-/
namespace Go.Proofs.YtoepcplbpochpaaDoor
open Go.RowKit

def UnitBad (K S P V : Int) (n : Nat) : Prop := K < 2 ∨ 16 < K ∨ S < 0 ∨ 16 < S ∨ P < 0 ∨ 4 < P ∨ S < P ∨ V < 0 ∨ 4 < V ∨ n < 1 ∨ 164 < n
def decUnit (K S P V : Int) (n : Nat) : Decidable (UnitBad K S P V n) := by unfold UnitBad; exact inferInstance
def unitB (K S P V : Int) (n : Nat) : Bool := @ite _ (UnitBad K S P V n) (decUnit K S P V n) false true
theorem unitB_bad {K S P V : Int} {n : Nat} (h : UnitBad K S P V n) : unitB K S P V n = false := @if_pos _ (decUnit _ _ _ _ _) h _ _ _
theorem unitB_good {K S P V : Int} {n : Nat} (h : ¬ UnitBad K S P V n) : unitB K S P V n = true := @if_neg _ (decUnit _ _ _ _ _) h _ _ _
/-- The first test that a unit's size fails. -/
theorem unit_cases {K S P V : Int} {n : Nat} (h : UnitBad K S P V n) :
    K < 2 ∨ (2 ≤ K ∧ 16 < K) ∨ (2 ≤ K ∧ K ≤ 16 ∧ S < 0) ∨ (2 ≤ K ∧ K ≤ 16 ∧ 0 ≤ S ∧ 16 < S) ∨ (2 ≤ K ∧ K ≤ 16 ∧ 0 ≤ S ∧ S ≤ 16 ∧ P < 0) ∨ (2 ≤ K ∧ K ≤ 16 ∧ 0 ≤ S ∧ S ≤ 16 ∧ 0 ≤ P ∧ 4 < P) ∨
    (2 ≤ K ∧ K ≤ 16 ∧ 0 ≤ S ∧ S ≤ 16 ∧ 0 ≤ P ∧ P ≤ 4 ∧ S < P) ∨ (2 ≤ K ∧ K ≤ 16 ∧ 0 ≤ S ∧ S ≤ 16 ∧ 0 ≤ P ∧ P ≤ 4 ∧ P ≤ S ∧ V < 0) ∨ (2 ≤ K ∧ K ≤ 16 ∧ 0 ≤ S ∧ S ≤ 16 ∧ 0 ≤ P ∧ P ≤ 4 ∧ P ≤ S ∧ 0 ≤ V ∧ 4 < V) ∨
    (2 ≤ K ∧ K ≤ 16 ∧ 0 ≤ S ∧ S ≤ 16 ∧ 0 ≤ P ∧ P ≤ 4 ∧ P ≤ S ∧ 0 ≤ V ∧ V ≤ 4 ∧ n < 1) ∨ (2 ≤ K ∧ K ≤ 16 ∧ 0 ≤ S ∧ S ≤ 16 ∧ 0 ≤ P ∧ P ≤ 4 ∧ P ≤ S ∧ 0 ≤ V ∧ V ≤ 4 ∧ 1 ≤ n ∧ 164 < n) := by
  unfold UnitBad at h
  by_cases h1 : K < 2
  · exact .inl h1
  by_cases h2 : 16 < K
  · exact .inr (.inl (by omega))
  by_cases h3 : S < 0
  · exact .inr (.inr (.inl (by omega)))
  by_cases h4 : 16 < S
  · exact .inr (.inr (.inr (.inl (by omega))))
  by_cases h5 : P < 0
  · exact .inr (.inr (.inr (.inr (.inl (by omega)))))
  by_cases h6 : 4 < P
  · exact .inr (.inr (.inr (.inr (.inr (.inl (by omega))))))
  by_cases h7 : S < P
  · exact .inr (.inr (.inr (.inr (.inr (.inr (.inl (by omega)))))))
  by_cases h8 : V < 0
  · exact .inr (.inr (.inr (.inr (.inr (.inr (.inr (.inl (by omega))))))))
  by_cases h9 : 4 < V
  · exact .inr (.inr (.inr (.inr (.inr (.inr (.inr (.inr (.inl (by omega)))))))))
  by_cases h10 : n < 1
  · exact .inr (.inr (.inr (.inr (.inr (.inr (.inr (.inr (.inr (.inl (by omega))))))))))
  · exact .inr (.inr (.inr (.inr (.inr (.inr (.inr (.inr (.inr (.inr (by omega))))))))))
theorem unit_good {K S P V : Int} {n : Nat} (h : ¬ UnitBad K S P V n) : 2 ≤ K ∧ K ≤ 16 ∧ 0 ≤ S ∧ S ≤ 16 ∧ 0 ≤ P ∧ P ≤ 4 ∧ P ≤ S ∧ 0 ≤ V ∧ V ≤ 4 ∧ 1 ≤ n ∧ n ≤ 164 := by
  unfold UnitBad at h; omega

set_option maxRecDepth 100000 in
set_option maxHeartbeats 2000000 in
theorem isSizeU_any (K S P V : Int) (L : List In4) (T : ByteArray) (ao : Option Addr) (cap : Nat) (w : World) (hn : L.length ≤ 9223372036854775807) :
    Calls Tryd.prog 45 #[.agg #[.int .i64 K, .int .i64 S, .int .i64 P, .int .i64 V, .slice ao L.length cap, .string T]] w fun e w' =>
      e = .returned (.bool (unitB K S P V L.length)) ∧ Below w.heap.size w w' := by
  by_cases hs : UnitBad K S P V L.length
  · have HS := hide (unitB_bad hs)
    rcases unit_cases hs with h | ⟨g1, h⟩ | ⟨g1, g2, h⟩ | ⟨g1, g2, g3, h⟩ | ⟨g1, g2, g3, g4, h⟩ | ⟨g1, g2, g3, g4, g5, h⟩ | ⟨g1, g2, g3, g4, g5, g6, h⟩ | ⟨g1, g2, g3, g4, g5, g6, g7, h⟩ | ⟨g1, g2, g3, g4, g5, g6, g7, g8, h⟩ | ⟨g1, g2, g3, g4, g5, g6, g7, g8, g9, h⟩ | ⟨g1, g2, g3, g4, g5, g6, g7, g8, g9, g10, h⟩
    all_goals
      clear hs
      go_enter Tryd.func45, Tryd.ntmps45
      go_wp2
      go_ret
      refine ⟨ret_bool ?_, (Below.refl _ _).alloc (Nat.le_refl _) _⟩
      rw [unhide HS]
      try (simp; omega)
  · have HS := hide (unitB_good hs)
    obtain ⟨g1, g2, g3, g4, g5, g6, g7, g8, g9, g10, g11⟩ := unit_good hs
    clear hs
    go_enter Tryd.func45, Tryd.ntmps45
    go_wp2
    go_ret
    refine ⟨ret_bool ?_, (Below.refl _ _).alloc (Nat.le_refl _) _⟩
    rw [unhide HS]
    try (simp; omega)

/-- Does a range name only what the unit has? -/
def RgIn (K S V : Int) (n : Nat) (r : Rg) : Prop := r.v < V ∧ r.t ≤ (n : Int) ∧ (r.k = 0 → r.a < K) ∧ (r.k = 1 → r.a < S)
def decRg (K S V : Int) (n : Nat) (r : Rg) : Decidable (RgIn K S V n r) := by unfold RgIn; exact inferInstance
def rgIn (K S V : Int) (n : Nat) (r : Rg) : Bool := @ite _ (RgIn K S V n r) (decRg K S V n r) true false
theorem rgIn_yes {K S V : Int} {n : Nat} {r : Rg} (h : RgIn K S V n r) : rgIn K S V n r = true := @if_pos _ (decRg _ _ _ _ _) h _ _ _
theorem rgIn_no {K S V : Int} {n : Nat} {r : Rg} (h : ¬ RgIn K S V n r) : rgIn K S V n r = false := @if_neg _ (decRg _ _ _ _ _) h _ _ _
theorem rgIn_true {K S V : Int} {n : Nat} {r : Rg} (h : rgIn K S V n r = true) : RgIn K S V n r := by
  rcases decRg K S V n r with hn | hy
  · rw [rgIn_no hn] at h; cases h
  · exact hy
/-- The ways of the tests. -/
theorem rg_cases (K S V : Int) (n : Nat) (r : Rg) :
    (V ≤ r.v ∧ rgIn K S V n r = false) ∨ (r.v < V ∧ (n : Int) < r.t ∧ rgIn K S V n r = false) ∨
    (r.v < V ∧ r.t ≤ (n : Int) ∧ r.k = 0 ∧ K ≤ r.a ∧ rgIn K S V n r = false) ∨ (r.v < V ∧ r.t ≤ (n : Int) ∧ r.k = 0 ∧ r.a < K ∧ rgIn K S V n r = true) ∨
    (r.v < V ∧ r.t ≤ (n : Int) ∧ r.k = 1 ∧ S ≤ r.a ∧ rgIn K S V n r = false) ∨ (r.v < V ∧ r.t ≤ (n : Int) ∧ r.k = 1 ∧ r.a < S ∧ rgIn K S V n r = true) ∨
    (r.v < V ∧ r.t ≤ (n : Int) ∧ (r.k == 0) = false ∧ (r.k == 1) = false ∧ rgIn K S V n r = true) := by
  by_cases h1 : r.v < V
  case neg => exact .inl ⟨by omega, rgIn_no (fun h => h1 h.1)⟩
  by_cases h2 : r.t ≤ (n : Int)
  case neg => exact .inr (.inl ⟨h1, by omega, rgIn_no (fun h => h2 h.2.1)⟩)
  by_cases h3 : r.k = 0
  · by_cases h4 : r.a < K
    · exact .inr (.inr (.inr (.inl ⟨h1, h2, h3, h4, rgIn_yes ⟨h1, h2, fun _ => h4, fun h => by omega⟩⟩)))
    · exact .inr (.inr (.inl ⟨h1, h2, h3, by omega, rgIn_no (fun h => h4 (h.2.2.1 h3))⟩))
  by_cases h5 : r.k = 1
  · by_cases h4 : r.a < S
    · exact .inr (.inr (.inr (.inr (.inr (.inl ⟨h1, h2, h5, h4, rgIn_yes ⟨h1, h2, fun h => absurd h h3, fun _ => h4⟩⟩)))))
    · exact .inr (.inr (.inr (.inr (.inl ⟨h1, h2, h5, by omega, rgIn_no (fun h => h4 (h.2.2.2 h5))⟩))))
  · exact .inr (.inr (.inr (.inr (.inr (.inr ⟨h1, h2, by rw [beq_eq_false_iff_ne]; exact h3, by rw [beq_eq_false_iff_ne]; exact h5, rgIn_yes ⟨h1, h2, fun h => absurd h h3, fun h => absurd h h5⟩⟩)))))

set_option maxRecDepth 100000 in
set_option maxHeartbeats 2000000 in
theorem isRangeU_any (K S P V : Int) (n : Nat) (T : ByteArray) (r : Rg) (ao : Option Addr) (cap : Nat) (w : World) :
    Calls Tryd.prog 83 #[.agg #[.int .i64 r.v, .int .i64 r.f, .int .i64 r.t, .int .i64 r.k, .int .i64 r.a], .agg #[.int .i64 K, .int .i64 S, .int .i64 P, .int .i64 V, .slice ao n cap, .string T]] w fun e w' =>
      e = .returned (.bool (rgIn K S V n r)) ∧ Below w.heap.size w w' := by
  obtain ⟨b, hb⟩ : ∃ b, rgIn K S V n r = b := ⟨_, rfl⟩
  have hc := rg_cases K S V n r
  rw [hb] at hc ⊢
  clear hb
  obtain ⟨v, f, t, k, a⟩ := r
  simp only at hc ⊢
  rcases hc with ⟨g1, rfl⟩ | ⟨g1, g2, rfl⟩ | ⟨g1, g2, rfl, g4, rfl⟩ | ⟨g1, g2, rfl, g4, rfl⟩ | ⟨g1, g2, rfl, g4, rfl⟩ | ⟨g1, g2, rfl, g4, rfl⟩ | ⟨g1, g2, g3, g4, rfl⟩
  all_goals
    go_enter Tryd.func83, Tryd.ntmps83
    go_wp2
    go_ret
    refine ⟨ret_bool ?_, ((Below.refl _ _).alloc (Nat.le_refl _) _).alloc (by simp) _⟩
    first | rfl | (simp; done) | (simp; omega)

/-- Do the ranges of a list name only what the unit has? -/
def TabIn (K S V : Int) (n : Nat) (R : List Rg) : Prop := ∀ i, i < R.length → RgIn K S V n (rg R i)
end Go.Proofs.YtoepcplbpochpaaDoor

/-
  Has a unit a table that may be? What mach.isTable answers.
-/
namespace Go.Proofs.YtoepcplbpochpaaDoor
open Go.RowKit

def TabOk (T : ByteArray) (K S V : Int) (n : Nat) : Prop := ∃ R, TabS T R ∧ TabIn K S V n R
noncomputable def tabB (T : ByteArray) (K S V : Int) (n : Nat) : Bool := @ite _ (TabOk T K S V n) (Classical.propDecidable _) true false
theorem tabB_yes {T : ByteArray} {K S V : Int} {n : Nat} (h : TabOk T K S V n) : tabB T K S V n = true := @if_pos _ (Classical.propDecidable _) h _ _ _
theorem tabB_no {T : ByteArray} {K S V : Int} {n : Nat} (h : ¬ TabOk T K S V n) : tabB T K S V n = false := @if_neg _ (Classical.propDecidable _) h _ _ _
theorem tabB_true {T : ByteArray} {K S V : Int} {n : Nat} (h : tabB T K S V n = true) : TabOk T K S V n := by
  rcases Classical.em (TabOk T K S V n) with hy | hn
  · exact hy
  · rw [tabB_no hn] at h; cases h

theorem decode_yes {s : ByteArray} {R : List Rg} (hs : s.size ≤ maxLen) (ht : TabS s R) (w : World) :
    Calls Tryd.prog 57 #[.string s] w fun e w' => ∃ v, e = .returned (.tuple #[v, .int .i64 0]) ∧ w'.ownsRow w.heap.size 132 5 v R.length (cellsOf R) ∧ Below w.heap.size w w' :=
  (decode_any s w hs).mono fun e w' h => by
    rcases h with ⟨hb, ⟨R', v, ht', he, ho⟩ | ⟨hn, _⟩⟩
    · obtain rfl := tab_uniq ht ht'; exact ⟨v, he, ho, hb⟩
    · exact absurd ht (hn R)
theorem decode_no {s : ByteArray} (hs : s.size ≤ maxLen) (ht : ∀ R, ¬ TabS s R) (w : World) :
    Calls Tryd.prog 57 #[.string s] w fun e w' => e = .returned (.tuple #[.slice none 0 0, .int .i64 14]) ∧ Below w.heap.size w w' :=
  (decode_any s w hs).mono fun e w' h => by
    rcases h with ⟨hb, ⟨R', v, ht', he, ho⟩ | ⟨hn, he⟩⟩
    · exact absurd ht' (ht R')
    · exact ⟨he, hb⟩

/-- A unit's six cells. -/
def At6 (w : World) (g : Nat) (K S P V : Int) (sl : Value) (T : ByteArray) : Prop :=
  w.cell? ⟨g, 0, none⟩ = some (.int .i64 K) ∧ w.cell? ⟨g, 1, none⟩ = some (.int .i64 S) ∧ w.cell? ⟨g, 2, none⟩ = some (.int .i64 P) ∧ w.cell? ⟨g, 3, none⟩ = some (.int .i64 V) ∧ w.cell? ⟨g, 4, none⟩ = some sl ∧ w.cell? ⟨g, 5, none⟩ = some (.string T)
theorem At6.below {w w' : World} {B g : Nat} {K S P V : Int} {sl : Value} {T : ByteArray} (h : At6 w g K S P V sl T) (hb : Below B w w') (hg : g < B) : At6 w' g K S P V sl T :=
  ⟨(hb.cell hg).trans h.1, (hb.cell hg).trans h.2.1, (hb.cell hg).trans h.2.2.1, (hb.cell hg).trans h.2.2.2.1, (hb.cell hg).trans h.2.2.2.2.1, (hb.cell hg).trans h.2.2.2.2.2⟩
theorem at6_new (w : World) (K S P V : Int) (sl : Value) (T : ByteArray) : At6 (w.alloc (.cells #[.int .i64 K, .int .i64 S, .int .i64 P, .int .i64 V, sl, .string T] 26)) w.heap.size K S P V sl T := by
  have q : ∀ i, (w.alloc (.cells #[.int .i64 K, .int .i64 S, .int .i64 P, .int .i64 V, sl, .string T] 26)).cell? ⟨w.heap.size, i, none⟩ = #[Value.int .i64 K, .int .i64 S, .int .i64 P, .int .i64 V, sl, .string T][i]? := fun i => World.cell?_alloc_at (hn := rfl) ..
  exact ⟨(q 0).trans rfl, (q 1).trans rfl, (q 2).trans rfl, (q 3).trans rfl, (q 4).trans rfl, (q 5).trans rfl⟩
/-- The world behind the boxing of a unit. -/
theorem unit_open (w : World) (K S P V : Int) (sl : Value) (T : ByteArray) : ∃ w1, w1 = w.alloc (.cells #[.int .i64 K, .int .i64 S, .int .i64 P, .int .i64 V, sl, .string T] 26) ∧ At6 w1 w.heap.size K S P V sl T ∧ Hid (Below w.heap.size w w1) ∧ w.heap.size < w1.heap.size :=
  ⟨_, rfl, at6_new _ _ _ _ _ _ _, (Below.refl _ _).alloc (Nat.le_refl _) _, by simp⟩

set_option maxRecDepth 100000 in
set_option maxHeartbeats 2000000 in
theorem isTableU_any (K S P V : Int) (n : Nat) (T : ByteArray) (ao : Option Addr) (cap : Nat) (w : World) (hs : T.size ≤ maxLen) :
    Calls Tryd.prog 46 #[.agg #[.int .i64 K, .int .i64 S, .int .i64 P, .int .i64 V, .slice ao n cap, .string T]] w fun e w' =>
      e = .returned (.bool (tabB T K S V n)) ∧ Below w.heap.size w w' := by
  by_cases ht : ∃ R, TabS T R
  case neg =>
    have HF := hide (tabB_no (K := K) (S := S) (V := V) (n := n) (fun h => ht (h.elim fun R h => ⟨R, h.1⟩)))
    have KD := hide (fun w => decode_no hs (fun R h => ht ⟨R, h⟩) w)
    clear ht
    go_enter Tryd.func46, Tryd.ntmps46
    go_wp2_with fail
    obtain ⟨w1, hw1, ⟨p0, p1, p2, p3, p4, p5⟩, HB1, hz1⟩ := unit_open w K S P V (.slice ao n cap) T
    rw [← hw1]
    clear hw1
    refine (unhide KD w1).mono ?_
    rintro e w2 ⟨rfl, hb2⟩
    have HB2 : Hid (Below w.heap.size w w2) := (unhide HB1).trans (hb2.mono (Nat.le_of_lt hz1))
    clear hb2
    go_wp2
    go_ret
    exact ⟨ret_bool (unhide HF).symm, unhide HB2⟩
  obtain ⟨R, ht⟩ := ht
  have KD := hide (fun w => decode_yes hs ht w)
  have HT := hide ht
  have KI := hide (fun (r : Rg) w => isRangeU_any K S P V n T r ao cap w)
  clear ht
  go_enter Tryd.func46, Tryd.ntmps46
  go_wp2_with fail
  obtain ⟨w1, hw1, h6, HB1, hz1⟩ := unit_open w K S P V (.slice ao n cap) T
  have p5 := h6.2.2.2.2.2
  have H6 := hide h6
  rw [← hw1]
  clear hw1 h6
  refine (unhide KD w1).mono ?_
  rintro e w2 ⟨v, rfl, ho, hb2⟩
  have HB2 : Hid (Below w.heap.size w w2) := (unhide HB1).trans (hb2.mono (Nat.le_of_lt hz1))
  have H62 := hide ((unhide H6).below hb2 hz1)
  have hz2 : w.heap.size < w2.heap.size := Nat.lt_of_lt_of_le hz1 hb2.size
  obtain ⟨ao', cap', rfl, hH, hlen, _, _⟩ := own_held ho
  have HH := hide hH
  unfold maxLen at hlen
  clear hb2 ho hH p5 H6 HB1
  go_wp2_with fail
  go_loopw [5] (fun i wr => ∃ k : Nat, k ≤ R.length ∧ i = .int .i64 k ∧ Hid (∀ j, j < k → RgIn K S V n (rg R j)) ∧ Below w2.heap.size w2 wr) (fun i _ => R.length - (intOf i).toNat)
  case atStart => exact ⟨0, Nat.zero_le _, rfl, fun j hj => by omega, Below.refl _ _⟩
  case round =>
    obtain ⟨k, hk, rfl, HC, hbel⟩ := hrel
    have hB := hbel.size
    have HBr : Hid (Below w.heap.size w wr) := (unhide HB2).trans (hbel.mono (by omega))
    by_cases hlt : k < R.length
    case neg =>
      obtain rfl : k = R.length := by omega
      have HF := hide (tabB_yes (K := K) (S := S) (V := V) (n := n) ⟨R, unhide HT, unhide HC⟩)
      clear HC
      go_wp2
      go_ret
      exact ⟨ret_bool (unhide HF).symm, unhide HBr⟩
    obtain ⟨b, off, rfl, hb, hL⟩ : ∃ b off, ao' = some ⟨b, off, none⟩ ∧ b < w2.heap.size ∧ Lie w2 b off R := by
      rcases unhide HH with h | h
      · subst h; exact absurd hlt (by simp)
      · exact h
    obtain ⟨r, hr⟩ : ∃ r, r = rg R k := ⟨_, rfl⟩
    have hA := (hL k hlt).below hbel hb
    rw [← hr] at hA
    obtain ⟨c0, c1, c2, c3, c4⟩ := hA
    obtain ⟨m0, m1, m2, m3, m4, m5⟩ := (unhide H62).below hbel hz2
    have KC := hide (unhide KI r)
    have hbr : b < wr.heap.size := by omega
    have h2r : w.heap.size < wr.heap.size := by omega
    have HR := hide hr
    clear hr hL KI
    by_cases h0 : RgIn K S V n r
    · have hnx : Hid (∀ j, j < k + 1 → RgIn K S V n (rg R j)) := fun j hj => by
        by_cases e : j = k
        · subst e; rw [← unhide HR]; exact h0
        · exact unhide HC j (by omega)
      rw [rgIn_yes h0] at KC
      clear h0
      go_wp2_with fail
      go_region_held3 (fun w' => w'.cell? ⟨b, off + k * 5, none⟩ = some (.int .i64 r.v) ∧ w'.cell? ⟨b, off + k * 5 + 1, none⟩ = some (.int .i64 r.f) ∧ w'.cell? ⟨b, off + k * 5 + 2, none⟩ = some (.int .i64 r.t) ∧ w'.cell? ⟨b, off + k * 5 + 3, none⟩ = some (.int .i64 r.k) ∧ w'.cell? ⟨b, off + k * 5 + 4, none⟩ = some (.int .i64 r.a) ∧ w'.cell? ⟨w.heap.size, 0, none⟩ = some (.int .i64 K) ∧ w'.cell? ⟨w.heap.size, 1, none⟩ = some (.int .i64 S) ∧ w'.cell? ⟨w.heap.size, 2, none⟩ = some (.int .i64 P) ∧ w'.cell? ⟨w.heap.size, 3, none⟩ = some (.int .i64 V) ∧ w'.cell? ⟨w.heap.size, 4, none⟩ = some (.slice ao n cap) ∧ w'.cell? ⟨w.heap.size, 5, none⟩ = some (.string T)) (first | (simp [*]; done) | (refine ⟨?_, ?_, ?_, ?_, ?_, ?_, ?_, ?_, ?_, ?_, ?_⟩ <;> assumption))
        ((go_at_call 83; refine (unhide KC _).mono ?_; rintro e w4 ⟨rfl, hb4⟩; have x0 := (hb4.cell (p := ⟨b, off + k * 5, none⟩) hbr).trans c0; have x1 := (hb4.cell (p := ⟨b, off + k * 5 + 1, none⟩) hbr).trans c1; have x2 := (hb4.cell (p := ⟨b, off + k * 5 + 2, none⟩) hbr).trans c2; have x3 := (hb4.cell (p := ⟨b, off + k * 5 + 3, none⟩) hbr).trans c3; have x4 := (hb4.cell (p := ⟨b, off + k * 5 + 4, none⟩) hbr).trans c4; have y0 := (hb4.cell (p := ⟨w.heap.size, 0, none⟩) h2r).trans m0; have y1 := (hb4.cell (p := ⟨w.heap.size, 1, none⟩) h2r).trans m1; have y2 := (hb4.cell (p := ⟨w.heap.size, 2, none⟩) h2r).trans m2; have y3 := (hb4.cell (p := ⟨w.heap.size, 3, none⟩) h2r).trans m3; have y4 := (hb4.cell (p := ⟨w.heap.size, 4, none⟩) h2r).trans m4; have y5 := (hb4.cell (p := ⟨w.heap.size, 5, none⟩) h2r).trans m5; have HB4 := hide (hbel.drew.trans (hb4.mono hB)); clear hb4))
      go_wp2
      go_roundw
      case rel => exact ⟨k + 1, by omega, by go_num, unhide hnx, unhide HB4⟩
      case measure => simp [intOf]; omega
    · have HF := hide (tabB_no (T := T) (K := K) (S := S) (V := V) (n := n) (fun h => by
        obtain ⟨R', h1, h2⟩ := h
        obtain rfl := tab_uniq (unhide HT) h1
        exact h0 (by rw [unhide HR]; exact h2 k hlt)))
      rw [rgIn_no h0] at KC
      clear h0
      go_wp2_with fail
      go_region_held3 (fun w' => w'.cell? ⟨b, off + k * 5, none⟩ = some (.int .i64 r.v) ∧ w'.cell? ⟨b, off + k * 5 + 1, none⟩ = some (.int .i64 r.f) ∧ w'.cell? ⟨b, off + k * 5 + 2, none⟩ = some (.int .i64 r.t) ∧ w'.cell? ⟨b, off + k * 5 + 3, none⟩ = some (.int .i64 r.k) ∧ w'.cell? ⟨b, off + k * 5 + 4, none⟩ = some (.int .i64 r.a) ∧ w'.cell? ⟨w.heap.size, 0, none⟩ = some (.int .i64 K) ∧ w'.cell? ⟨w.heap.size, 1, none⟩ = some (.int .i64 S) ∧ w'.cell? ⟨w.heap.size, 2, none⟩ = some (.int .i64 P) ∧ w'.cell? ⟨w.heap.size, 3, none⟩ = some (.int .i64 V) ∧ w'.cell? ⟨w.heap.size, 4, none⟩ = some (.slice ao n cap) ∧ w'.cell? ⟨w.heap.size, 5, none⟩ = some (.string T)) (first | (simp [*]; done) | (refine ⟨?_, ?_, ?_, ?_, ?_, ?_, ?_, ?_, ?_, ?_, ?_⟩ <;> assumption))
        ((go_at_call 83; refine (unhide KC _).mono ?_; rintro e w4 ⟨rfl, hb4⟩; have x0 := (hb4.cell (p := ⟨b, off + k * 5, none⟩) hbr).trans c0; have x1 := (hb4.cell (p := ⟨b, off + k * 5 + 1, none⟩) hbr).trans c1; have x2 := (hb4.cell (p := ⟨b, off + k * 5 + 2, none⟩) hbr).trans c2; have x3 := (hb4.cell (p := ⟨b, off + k * 5 + 3, none⟩) hbr).trans c3; have x4 := (hb4.cell (p := ⟨b, off + k * 5 + 4, none⟩) hbr).trans c4; have y0 := (hb4.cell (p := ⟨w.heap.size, 0, none⟩) h2r).trans m0; have y1 := (hb4.cell (p := ⟨w.heap.size, 1, none⟩) h2r).trans m1; have y2 := (hb4.cell (p := ⟨w.heap.size, 2, none⟩) h2r).trans m2; have y3 := (hb4.cell (p := ⟨w.heap.size, 3, none⟩) h2r).trans m3; have y4 := (hb4.cell (p := ⟨w.heap.size, 4, none⟩) h2r).trans m4; have y5 := (hb4.cell (p := ⟨w.heap.size, 5, none⟩) h2r).trans m5; have HB4 := hide (hbel.drew.trans (hb4.mono hB)); clear hb4))
      go_wp2
      go_ret
      exact ⟨ret_bool (unhide HF).symm, (unhide HB2).trans ((unhide HB4).mono (by omega))⟩
end Go.Proofs.YtoepcplbpochpaaDoor

/-
  What mach.Check answers of a unit: the error and the place.
-/
namespace Go.Proofs.YtoepcplbpochpaaDoor
open Go.RowKit

/-- The error of a unit, and its place. -/
noncomputable def unitE (K S P V : Int) (L : List In4) (T : ByteArray) : Int × Int :=
  @ite _ (UnitBad K S P V L.length) (decUnit K S P V L.length) (1, 0)
    (if (codedE false L K 0 S).1 ≠ 0 then codedE false L K 0 S else if tabB T K S V L.length = true then (0, 0) else (10, 0))
theorem unitE_bad {K S P V : Int} {L : List In4} {T : ByteArray} (h : UnitBad K S P V L.length) : unitE K S P V L T = (1, 0) := by unfold unitE; exact @if_pos _ (decUnit _ _ _ _ _) h _ _ _
theorem unitE_good {K S P V : Int} {L : List In4} {T : ByteArray} (h : ¬ UnitBad K S P V L.length) : unitE K S P V L T = if (codedE false L K 0 S).1 ≠ 0 then codedE false L K 0 S else if tabB T K S V L.length = true then (0, 0) else (10, 0) := by
  unfold unitE; exact @if_neg _ (decUnit _ _ _ _ _) h _ _ _

set_option maxRecDepth 100000 in
set_option maxHeartbeats 2000000 in
theorem machCheck_any (K S P V : Int) (L : List In4) (T : ByteArray) (ao : Option Addr) (cap : Nat) (w : World) (hH : HeldIns w ao L) (hn : L.length ≤ 9223372036854775807) (hs : T.size ≤ maxLen) (hT : Tab w) (hw0 : 0 < w.heap.size) :
    Calls Tryd.prog 13 #[.agg #[.int .i64 K, .int .i64 S, .int .i64 P, .int .i64 V, .slice ao L.length cap, .string T]] w fun e w' =>
      e = .returned (.tuple #[.int .i64 (unitE K S P V L T).1, .int .i64 (unitE K S P V L T).2]) ∧ Below w.heap.size w w' := by
  have KS := hide (fun w => isSizeU_any K S P V L T ao cap w hn)
  by_cases hb : UnitBad K S P V L.length
  · have he := hide (unitE_bad (T := T) hb)
    rw [unitB_bad hb] at KS
    clear hb hT hs
    go_enter Tryd.func13, Tryd.ntmps13
    go_wp2_with (go_at_call 45; refine (unhide KS _).mono ?_; rintro e w2 ⟨rfl, hb2⟩)
    go_ret2
    exact ⟨ret2 (by rw [unhide he]) (by rw [unhide he]), ((Below.refl _ _).alloc (Nat.le_refl _) _).trans (hb2.mono (by simp))⟩
  have he := hide (unitE_good (T := T) hb)
  rw [unitB_good hb] at KS
  have g8 : 1 ≤ L.length := (unit_good hb).2.2.2.2.2.2.2.2.2.1
  have KC := hide (fun w (hH : HeldIns w ao L) (hT : Tab w) (hw0 : 0 < w.heap.size) => codeCheck_any true K 0 S L ao cap w hH g8 hn hT hw0)
  have KT := hide (fun w => isTableU_any K S P V L.length T ao cap w hs)
  rw [show (!true) = false from rfl] at KC
  obtain ⟨e1, he1⟩ : ∃ e, e = (codedE false L K 0 S).1 := ⟨_, rfl⟩
  obtain ⟨e2, he2⟩ : ∃ e, e = (codedE false L K 0 S).2 := ⟨_, rfl⟩
  obtain ⟨tb, htb⟩ : ∃ b, b = tabB T K S V L.length := ⟨_, rfl⟩
  have he' := hide (show unitE K S P V L T = if e1 ≠ 0 then (e1, e2) else if tb = true then (0, 0) else (10, 0) by rw [unhide he, he1, he2, htb])
  rw [← he1, ← he2] at KC
  rw [← htb] at KT
  have HH := hide hH
  have HT := hide hT
  clear hb hH hT he g8 he1 he2 htb hs
  go_enter Tryd.func13, Tryd.ntmps13
  go_wp2_with fail
  obtain ⟨w1, hw1, h6, HB1, hz⟩ := unit_open w K S P V (.slice ao L.length cap) T
  rw [← hw1]
  clear hw1
  refine (unhide KS w1).mono ?_
  rintro e w2 ⟨rfl, hb2⟩
  have hz2 : w.heap.size < w2.heap.size := Nat.lt_of_lt_of_le hz hb2.size
  have h62 := h6.below hb2 hz
  have H62 := hide h62
  obtain ⟨q0, q1, q2, q3, q4, q5⟩ := h62
  have HB2 : Hid (Below w.heap.size w w2) := hide ((unhide HB1).trans (hb2.mono (Nat.le_of_lt hz)))
  clear hb2 h6
  go_wp2_with fail
  refine (unhide KC w2 ((unhide HH).below (unhide HB2)) ((unhide HT).below (unhide HB2) hw0) (by omega)).mono ?_
  rintro e w3 ⟨rfl, hb3⟩
  have HB3 : Hid (Below w.heap.size w w3) := hide ((unhide HB2).trans (hb3.mono (Nat.le_of_lt hz2)))
  obtain ⟨r0, r1, r2, r3, r4, r5⟩ := (unhide H62).below hb3 hz2
  have hz3 : w.heap.size < w3.heap.size := Nat.lt_of_lt_of_le hz2 hb3.size
  clear hb3 q0 q1 q2 q3 q4 q5
  by_cases h1 : e1 = 0
  case neg =>
    have h1' : (e1 != 0) = true := by rw [bne_iff_ne]; exact h1
    have he2 := hide (show unitE K S P V L T = (e1, e2) by rw [unhide he', if_pos h1])
    go_wp2_with fail
    go_ret2
    exact ⟨ret2 (by rw [unhide he2]) (by rw [unhide he2]), unhide HB3⟩
  subst h1
  go_wp2_with fail
  refine (unhide KT w3).mono ?_
  rintro e w4 ⟨rfl, hb4⟩
  have HB4 : Hid (Below w.heap.size w w4) := hide ((unhide HB3).trans (hb4.mono (Nat.le_of_lt hz3)))
  clear hb4
  cases tb
  · have he2 := hide (show unitE K S P V L T = (10, 0) by rw [unhide he', if_neg (fun h => h rfl), if_neg (by decide)])
    go_wp2_with fail
    go_ret2
    exact ⟨ret2 (by rw [unhide he2]) (by rw [unhide he2]), unhide HB4⟩
  · have he2 := hide (show unitE K S P V L T = (0, 0) by rw [unhide he', if_neg (fun h => h rfl), if_pos rfl])
    go_wp2_with fail
    go_ret2
    exact ⟨ret2 (by rw [unhide he2]) (by rw [unhide he2]), unhide HB4⟩
end Go.Proofs.YtoepcplbpochpaaDoor
