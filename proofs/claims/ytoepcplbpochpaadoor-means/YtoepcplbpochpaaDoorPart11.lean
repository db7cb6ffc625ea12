/-
  The table: lodge.findRanges.
-/
import Derived.Test.YtoepcplbpochpaaDoorPart10
import Derived.Test.YtoepcplbpochpaaDoorPart2
import Derived.Test.YtoepcplbpochpaaDoorPart8

namespace Go.Proofs.YtoepcplbpochpaaDoor
open Go.RowKit

/-- The table behind the place i. -/
def rngS (hs : Nat → Bool) (ha : Nat → Nat) (st : Nat → Nat) (L : List In4) (v i : Nat) (R : List Rg) : List Rg :=
  if (inAt L i).op = 11 ∧ canB (factB L i v) (liveB L i) = true then addR R ⟨v, st i, (st i : Int) + 1, placeK (factB L i v) hs, placeA (factB L i v) ha⟩ else R
def rngI (hs : Nat → Bool) (ha : Nat → Nat) (st : Nat → Nat) (L : List In4) (v : Nat) (R : List Rg) : Nat → List Rg
  | 0 => R
  | k + 1 => rngS hs ha st L v k (rngI hs ha st L v R k)
def rngV (hs : Nat → Bool) (ha : Nat → Nat) (st : Nat → Nat) (L : List In4) : Nat → List Rg
  | 0 => []
  | v + 1 => rngI hs ha st L v (rngV hs ha st L v) L.length
theorem addR_len (R : List Rg) (g : Rg) : (addR R g).length ≤ R.length + 1 := by
  unfold addR; split
  · rw [List.length_set]; omega
  · rw [List.length_append]; simp
theorem rngI_len (hs : Nat → Bool) (ha : Nat → Nat) (st : Nat → Nat) (L : List In4) (v : Nat) (R : List Rg) : ∀ k, (rngI hs ha st L v R k).length ≤ R.length + k
  | 0 => Nat.le_refl _
  | k + 1 => by
    have ih := rngI_len hs ha st L v R k
    show (rngS hs ha st L v k _).length ≤ _
    unfold rngS
    split
    · exact Nat.le_trans (addR_len _ _) (by omega)
    · omega
theorem rngV_len (hs : Nat → Bool) (ha : Nat → Nat) (st : Nat → Nat) (L : List In4) : ∀ v, (rngV hs ha st L v).length ≤ v * L.length
  | 0 => Nat.zero_le _
  | v + 1 => by
    have := rngV_len hs ha st L v
    refine Nat.le_trans (rngI_len hs ha st L v _ L.length) ?_
    rw [Nat.succ_mul]; omega

theorem Tryd.size115 : (Tryd.prog.info? 115).map (·.size) = some 40 := by kernel_rfl
/-- The head of findRanges. -/
theorem open_rng (w : World) (P R V : Int) (sl : Value) (c1 c2 c3 : Nat → Value) : ∃ w1, w1 = (((w.alloc (.cells #[.int .i64 P, .int .i64 R, .int .i64 V, sl] 24)).alloc (.cells (rowA 480 c1) 108)).alloc (.cells (rowA 24 c2) 113)).alloc (.cells (rowA 40 c3) 115) ∧
    Hid (ProgB w1 w.heap.size P R V sl) ∧ Hid (Rowd w1 (w.heap.size + 1) 108 480 c1) ∧ Hid (Rowd w1 (w.heap.size + 1 + 1) 113 24 c2) ∧ Hid (Rowd w1 (w.heap.size + 1 + 1 + 1) 115 40 c3) ∧ Hid (Below w.heap.size w w1) ∧ w.heap.size + 1 + 1 + 1 < w1.heap.size := by
  obtain ⟨w0, hw0, h1, h2, h3, h4, h5⟩ := open_pl w P R V sl 480 24 113 c1 c2
  have hb := below_alloc w0 (.cells (rowA 40 c3) 115)
  refine ⟨_, rfl, ?_, ?_, ?_, ?_, ?_, ?_⟩
  all_goals rw [← hw0]
  · exact (unhide h1).below hb
  · exact (unhide h2).below hb
  · exact (unhide h3).below hb
  · exact at_alloc _ _ _ (by rw [hw0]; simp)
  · exact (unhide h4).trans (hb.mono (unhide h4).size)
  · simp; omega

set_option maxRecDepth 100000 in
set_option maxHeartbeats 8000000 in
theorem ranges_any (P R : Int) (V : Nat) (L : List In4) (ao : Option Addr) (cap : Nat) (hs : Nat → Bool) (ha : Nat → Nat) (st : Nat → Nat) (w : World) (hH : HeldIns w ao L) (hL : Inside L) (hV : V ≤ 4) (hn1 : 1 ≤ L.length) (hn : L.length ≤ 40) (hst : ∀ i, st i ≤ 1000)
    (hfb : ∀ i v, i < L.length → v < 4 → (factB L i v).k = 3 → 0 ≤ (factB L i v).a ∧ (factB L i v).a < 12) :
    Calls Tryd.prog 70 #[.agg #[.int .i64 P, .int .i64 R, .int .i64 V, .slice ao L.length cap], .agg (rowA 480 (gridV (liveB L))), .agg (rowA 24 (homV hs ha)), .agg (rowA 40 (numV st))] w fun e w' =>
      ∃ sv, e = .returned sv ∧ w'.ownsRow w.heap.size 132 5 sv (rngV hs ha st L V).length (cellsOf (rngV hs ha st L V)) ∧ Below w.heap.size w w' := by
  obtain ⟨b, off, rfl, hb, hI⟩ := held_at hH hn1
  have HI := hide hI
  have KF := hide (fun w hH => findFacts_any L (some ⟨b, off, none⟩) cap w hH hL hn1 hn)
  have HFB := hide hfb
  have HST := hide hst
  clear hI hfb hst hL
  go_enter Tryd.func70, Tryd.ntmps70
  go_upto_region 1 with fail
  obtain ⟨w1, hw1, HP1, HV1, HH1, HS1, HL1, hz1⟩ := open_rng w P R V (.slice (some ⟨b, off, none⟩) L.length cap) (gridV (liveB L)) (homV hs ha) (numV st)
  rw [← hw1]
  have p3 := (unhide HP1).c3
  have KF' := hide (unhide KF w1 (hH.below (unhide HL1)))
  clear hw1 hH KF
  go_wp2_with fail
  refine (unhide KF').mono ?_
  rintro e w2 ⟨rfl, hb2⟩
  have HP2 := hide ((unhide HP1).below hb2)
  have HV2 := hide ((unhide HV1).below hb2)
  have HH2 := hide ((unhide HH1).below hb2)
  have HS2 := hide ((unhide HS1).below hb2)
  have HL2 : Hid (Below w.heap.size w w2) := (unhide HL1).trans (hb2.mono (unhide HL1).size)
  have hz2 : w.heap.size + 1 + 1 + 1 < w2.heap.size := Nat.lt_of_lt_of_le hz1 hb2.size
  clear hb2 p3 KF' HP1 HV1 HH1 HS1 HL1 hz1
  go_upto_region 3 with (refine wpList_store_row ?h1 155 ?h2 ?h3 ?h4 w2.heap.size ?h5 ?h6 ?h7 ?h8 ?h9 ?h10 ?h11 ?h12 ?h13 ?h14; case h4 => rfl)
  case h1 => rfl
  case h6 => rfl
  case h7 => rfl
  case h10 => exact heap_alloc_new _ _
  case h11 => rw [rowA_size]; exact Tryd.size155
  case h12 => rw [rowA_size, zero155, rowA_size]
  case h13 => exact rowA_plain (factV_plain _)
  rw [World.setRow_alloc_new]
  obtain ⟨w3, hw3, HF3, HL3', hz3⟩ := box_row w2 155 320 (factV (factB L))
  have e3 : w2.heap.size + 1 = w3.heap.size := by rw [hw3]; simp
  rw [← hw3]
  rw [e3]
  clear hw3 e3
  obtain ⟨w4, hw4⟩ : ∃ w4, w4 = w3.alloc (.cells #[.slice none 0 0] 158) := ⟨_, rfl⟩
  rw [← hw4]
  have hb34 : Below w3.heap.size w3 w4 := by rw [hw4]; exact below_alloc _ _
  have hb24 : Below w2.heap.size w2 w4 := (unhide HL3').trans (hb34.mono (by omega))
  have HT4 : Hid (TlB w4 w3.heap.size [] (.slice none 0 0)) := by
    rw [hw4]; exact ⟨rowd_alloc w3 158 1 (fun _ => .slice none 0 0), rfl, .inl ⟨rfl, rfl⟩⟩
  have HP4 := hide ((unhide HP2).below hb24)
  have HV4 := hide ((unhide HV2).below hb24)
  have HH4 := hide ((unhide HH2).below hb24)
  have HS4 := hide ((unhide HS2).below hb24)
  have HF4 := hide ((unhide HF3).below hb34)
  have HL4 : Hid (Below w.heap.size w w4) := (unhide HL2).trans (hb24.mono (unhide HL2).size)
  have HLI4 : Hid (LieI w4 b off L) := (unhide HI).below (unhide HL4) hb
  have hbT : b < w3.heap.size := by omega
  have hz4 : w3.heap.size < w4.heap.size := (unhide HT4).lt
  clear hw4 hb34 hb24 HP2 HV2 HH2 HS2 HF3 HL2 HL3' HI
  have HBR := hide (show ∀ (wr : World), Below w3.heap.size w4 wr → ProgB wr w.heap.size P R V (.slice (some ⟨b, off, none⟩) L.length cap) ∧ Rowd wr (w.heap.size + 1) 108 480 (gridV (liveB L)) ∧ Rowd wr (w.heap.size + 1 + 1) 113 24 (homV hs ha) ∧ Rowd wr (w.heap.size + 1 + 1 + 1) 115 40 (numV st) ∧ Rowd wr w2.heap.size 155 320 (factV (factB L)) ∧ LieI wr b off L from fun wr hb =>
    ⟨(hb.block _ (by omega)).trans (unhide HP4), (unhide HV4).of_block (hb.block _ (by omega)), (unhide HH4).of_block (hb.block _ (by omega)), (unhide HS4).of_block (hb.block _ (by omega)), (unhide HF4).of_block (hb.block _ (by omega)), (unhide HLI4).below hb hbT⟩)
  have KC := hide can_any
  have KP := hide place_any
  have KA := hide addR_any
  have HVL := hide (rngV_len hs ha st L)
  have HIL := hide (rngI_len hs ha st L)
  clear HP4 HV4 HH4 HS4 HF4 HLI4
  go_wp2_with fail
  go_loopw [11] (fun i' wr => ∃ v : Nat, v ≤ V ∧ i' = .int .i64 v ∧ ∃ sv, Hid (TlB wr w3.heap.size (rngV hs ha st L v) sv) ∧ Hid (Below w3.heap.size w4 wr)) (fun i' _ => V - (intOf i').toNat)
  case atStart => exact ⟨0, by omega, rfl, _, unhide HT4, Below.refl _ _⟩
  case round =>
    clear HT4
    obtain ⟨v, hv, rfl, sv, HT, HB⟩ := hrel
    have p2 := (unhide HBR wr (unhide HB)).1.c2
    by_cases hlt : v < V
    case neg =>
      have hvV : v = V := by omega
      subst hvV
      have c0 := (unhide HT).cell
      have HR : Hid (∃ sv', sv = sv' ∧ wr.ownsRow w.heap.size 132 5 sv' (rngV hs ha st L v).length (cellsOf (rngV hs ha st L v)) ∧ Below w.heap.size w wr) := ⟨sv, rfl, own_weakR (unhide HT).own (by omega), (unhide HL4).trans ((unhide HB).mono (by omega))⟩
      go_wp2_with fail
      go_ret
      obtain ⟨sv', h1, h2, h3⟩ := unhide HR
      exact ⟨sv, rfl, by rw [h1]; exact h2, h3⟩
    have hvi : (v : Int) < 4 := by omega
    go_wp2_with fail
    obtain ⟨wo, rfl⟩ : ∃ wo, wo = wr := ⟨_, rfl⟩
    go_loopw [12] (fun i' wr => ∃ k : Nat, k ≤ L.length ∧ i' = .int .i64 k ∧ ∃ sv, Hid (TlB wr w3.heap.size (rngI hs ha st L v (rngV hs ha st L v) k) sv) ∧ Hid (Below w3.heap.size w4 wr)) (fun i' _ => L.length - (intOf i').toNat)
    case atStart => exact ⟨0, by omega, rfl, sv, unhide HT, unhide HB⟩
    case round =>
      clear HT HB p2
      obtain ⟨k, hk, rfl, sv', HT, HB⟩ := hrel
      obtain ⟨hP, hV', hH', hS', hF', hI'⟩ := unhide HBR wr (unhide HB)
      have p3 := hP.c3
      by_cases hlk : k < L.length
      case neg =>
        have hkL : k = L.length := by omega
        subst hkL
        go_wp2_with fail
        go_roundw
        case rel => exact ⟨v + 1, by omega, by go_num, sv', unhide HT, unhide HB⟩
        case measure => simp [intOf]; omega
      have hki : (k : Int) < L.length := by omega
      have hki4 : (k : Int) < 40 := by omega
      obtain ⟨c0, c1⟩ := fcell hF' (i := k) (v := v) (by omega) (by omega)
      have hfb := unhide HFB k v hlk (by omega)
      have HSG := hide (show rngI hs ha st L v (rngV hs ha st L v) (k + 1) = if (inAt L k).op = 11 ∧ canB (factB L k v) (liveB L k) = true then addR (rngI hs ha st L v (rngV hs ha st L v) k) ⟨v, st k, (st k : Int) + 1, placeK (factB L k v) hs, placeA (factB L k v) ha⟩ else rngI hs ha st L v (rngV hs ha st L v) k from rfl)
      have hll : (rngI hs ha st L v (rngV hs ha st L v) k).length ≤ 1000 := by
        have h1 := unhide HIL v (rngV hs ha st L v) k
        have h2 := unhide HVL v
        have h3 : v * L.length ≤ 4 * 40 := Nat.mul_le_mul (by omega) hn
        omega
      have HLL := hide hll
      obtain ⟨f, hf⟩ : ∃ f, f = factB L k v := ⟨_, rfl⟩
      rw [← hf] at c0 c1 hfb HSG
      have HFB' := hide hfb
      clear hf hfb hll
      obtain ⟨RI, hRI⟩ : ∃ RI, RI = rngI hs ha st L v (rngV hs ha st L v) k := ⟨_, rfl⟩
      rw [← hRI] at HT HSG HLL
      have HRI := hide hRI
      clear hRI
      obtain ⟨wX, hwX⟩ : ∃ wX, wX = wr.alloc (.cells #[.int .i64 f.k, .int .i64 f.a] 151) := ⟨_, rfl⟩
      have HWX := hide hwX
      have hbX : Below wr.heap.size wr wX := by rw [hwX]; exact below_alloc _ _
      have hxX : At2 wX wr.heap.size 0 f := by rw [hwX]; exact at2_new wr f _ rfl
      have HTX := hide ((unhide HT).below hbX)
      have hTw := (unhide HT).lt
      have HBX : Hid (Below w3.heap.size w4 wX) := (unhide HB).trans (hbX.mono (by omega))
      have hzX : wr.heap.size < wX.heap.size := by rw [hwX]; simp
      have HXX := hide hxX
      clear hwX hbX HT HB
      go_upto_region 10 with fail
      rw [← unhide HWX]
      clear c0 c1 p3 hP hV' hH' hS' hF' hI' HWX
      obtain ⟨hP, hV', hH', hS', hF', hI'⟩ := unhide HBR wX (unhide HBX)
      have p3 := hP.c3
      have hop := (hI' k hlk).1
      obtain ⟨op, hop'⟩ : ∃ o, o = (inAt L k).op := ⟨_, rfl⟩
      rw [← hop'] at hop HSG
      have HOP := hide hop'
      clear hop'
      by_cases h11 : op = 11
      case neg =>
        have g11 : (op == 11) = false := by rw [beq_eq_false_iff_ne]; exact h11
        have HR : Hid (rngI hs ha st L v (rngV hs ha st L v) (k + 1) = RI) := by
          have := unhide HSG
          rw [if_neg (fun h => h11 h.1)] at this
          exact this
        clear h11 hV' hH' hS' hF' hI' hP hxX
        go_quiet (fail)
        obtain ⟨wY, hwY⟩ : ∃ wY, wY = wX.drewN nq := ⟨_, rfl⟩
        rw [← hwY]
        have HTY : Hid (TlB wY w3.heap.size (rngI hs ha st L v (rngV hs ha st L v) (k + 1)) sv') := by rw [hwY, unhide HR]; exact (unhide HTX).keep0 ((Keep.refl _ _).drewN _)
        have HBY : Hid (Below w3.heap.size w4 wY) := by rw [hwY]; exact below_drewN' (unhide HBX) _
        clear hwY
        go_wp2_with fail
        go_roundw
        case rel => exact ⟨k + 1, by omega, by go_num, sv', unhide HTY, unhide HBY⟩
        case measure => simp [intOf]; omega
      subst h11
      obtain ⟨x0, x1⟩ := hxX
      have hrg := range12 hV' k (by omega)
      have hu := Tryd.underlying105
      have hsz := size12 (liveB L k)
      have KC' := hide (unhide KC f (liveB L k))
      obtain ⟨cb, hcb⟩ : ∃ c, c = canB f (liveB L k) := ⟨_, rfl⟩
      rw [← hcb] at KC' HSG
      have HCB := hide hcb
      clear hcb
      clear hH' hS' hF' hI' hP hV'
      go_region_held3 (fun w' => w'.cell? ⟨w.heap.size, 3, none⟩ = some (.slice (some ⟨b, off, none⟩) L.length cap) ∧ w'.cell? ⟨b, off + k * 4, none⟩ = some (.int .i64 11) ∧ w'.cell? ⟨wr.heap.size, 0, none⟩ = some (.int .i64 f.k) ∧ w'.cell? ⟨wr.heap.size, 1, none⟩ = some (.int .i64 f.a) ∧ w'.rangeAt (w.heap.size + 1) (k * 12) (cells12 (liveB L k))) (first | assumption | (refine ⟨?_, ?_, ?_, ?_, ?_⟩ <;> assumption))
        ((go_at_call 102; refine (unhide KC' _ (unhide HFB')).mono ?_; rintro e wY ⟨rfl, hbY⟩; have HXY : Hid (Below wX.heap.size wX wY) := ⟨hbY.os, hbY.tape, hbY.output, hbY.size, hbY.block⟩; clear hbY; have HBY : Hid (Below w3.heap.size w4 wY) := (unhide HBX).trans ((unhide HXY).mono (by omega)); have hh := unhide HBR wY (unhide HBY); have xx := (unhide HXX).below (unhide HXY) hzX; clear p3 hop x0 x1 hrg; have p3 := hh.1.c3; have hop : wY.cell? ⟨b, off + k * 4, none⟩ = some (.int .i64 11) := (by have := (hh.2.2.2.2.2 k hlk).1; rw [← unhide HOP] at this; exact this); have hrg := range12 hh.2.1 k (by omega); obtain ⟨x0, x1⟩ := xx; clear hh))
      have HTY := hide ((unhide HTX).below (unhide HXY))
      have hzY : wr.heap.size < wY.heap.size := Nat.lt_of_lt_of_le hzX (unhide HXY).size
      cases cb
      · have HR : Hid (rngI hs ha st L v (rngV hs ha st L v) (k + 1) = RI) := by
          have := unhide HSG
          rw [if_neg (fun h => by cases h.2)] at this
          exact this
        have HTZ : Hid (TlB wY w3.heap.size (rngI hs ha st L v (rngV hs ha st L v) (k + 1)) sv') := by rw [unhide HR]; exact unhide HTY
        clear p3 hop x0 x1 hrg hu hsz
        go_wp2_with fail
        go_roundw
        case rel => exact ⟨k + 1, by omega, by go_num, sv', unhide HTZ, unhide HBY⟩
        case measure => simp [intOf]; omega
      · have HR : Hid (rngI hs ha st L v (rngV hs ha st L v) (k + 1) = addR RI ⟨v, st k, (st k : Int) + 1, placeK f hs, placeA f ha⟩) := by
          have := unhide HSG
          rw [if_pos ⟨trivial, rfl⟩] at this
          exact this
        have HH' := hide ((unhide HBR wY (unhide HBY)).2.2.1)
        have KP' := hide (unhide KP f hs ha wY (fun h2 => unhide HFB' (by
          have := unhide HCB
          unfold canB at this
          rw [show (f.k == 2) = false by rw [beq_eq_false_iff_ne]; exact h2, Bool.false_or] at this
          have h3 := (Bool.and_eq_true _ _ ▸ this.symm : (f.k == 3) = true ∧ _)
          exact beq_iff_eq.1 h3.1)))
        obtain ⟨pk, hpk⟩ : ∃ y, y = placeK f hs := ⟨_, rfl⟩
        obtain ⟨pa, hpa⟩ : ∃ y, y = placeA f ha := ⟨_, rfl⟩
        rw [← hpk, ← hpa] at KP' HR
        clear hpk hpa p3 hop hrg hu hsz KC' HSG HCB
        iterate 60 (first | (refine wpList_load_row rfl 113 _ rfl (w.heap.size + 1 + 1) rfl 113 _ (0, 0) _ (unhide HH') Tryd.underlying113 rfl (by rw [rowA_size]; exact Tryd.size113) ?_; clear HH') | go_values | go_skip | go_guarded | go_step | skip)
        refine (unhide KP').mono ?_
        rintro e wZ ⟨rfl, hbZ⟩
        have HBZ : Hid (Below w3.heap.size w4 wZ) := (unhide HBY).trans (hbZ.mono (by omega))
        have HTZ := hide ((unhide HTY).below hbZ)
        clear hbZ x0 x1 KP' HTY HTX
        have s0 := num_cell (unhide HBR wZ (unhide HBZ)).2.2.2.1 (r := k) (by omega)
        have hst := unhide HST k
        obtain ⟨sk, hsk⟩ : ∃ y, y = st k := ⟨_, rfl⟩
        rw [← hsk] at s0 hst HR
        have KA' := hide (unhide KA w3.heap.size RI sv' ⟨v, sk, (sk : Int) + 1, pk, pa⟩)
        simp only at KA'
        have hsw : IntKind.i64.wrap ((sk : Int) + 1) = (sk : Int) + 1 := by rw [IntKind.wrap_i64]; omega
        have HSK := hide hsk
        clear hsk
        go_upto_region 12 with fail
        go_region_held3 (fun w' => w'.cell? ⟨w.heap.size + 1 + 1 + 1, k, none⟩ = some (.int .i64 (sk : Int))) (first | assumption | (simp [*]; done))
          ((go_at_call 104; refine (unhide KA' _ (unhide HTZ).drew (unhide HLL)).mono ?_; rintro e wQ ⟨rfl, svQ, hQ1, hQ2⟩; have HQ1 : Hid (TlB wQ w3.heap.size (rngI hs ha st L v (rngV hs ha st L v) (k + 1)) svQ) := (by rw [unhide HR]; exact hQ1); have HQ2 : Hid (Below w3.heap.size w4 wQ) := (by have h := TlB.under hQ2 (unhide HTZ).drew; have h' : Below w3.heap.size wZ wQ := ⟨h.os, h.tape, h.output, h.size, h.block⟩; exact (unhide HBZ).trans h'); clear hQ1 hQ2 s0; have s0 := num_cell (unhide HBR wQ (unhide HQ2)).2.2.2.1 (r := k) (by omega); rw [← unhide HSK] at s0))
        clear s0
        go_wp2_with fail
        go_roundw
        case rel => exact ⟨k + 1, by omega, by go_num, svQ, unhide HQ1, unhide HQ2⟩
        case measure => simp [intOf]; omega
end Go.Proofs.YtoepcplbpochpaaDoor

/-
  Plain mathematics of a run: what a right program keeps to, and that a run of it stays within.
-/
namespace Go.Proofs.YtoepcplbpochpaaDoor
open Go.RowKit

theorem right_of_insE (x : In4) (R n V : Int) (h : insE true x R n V 0 = 0) : Right R n V x ∧ x.op ≤ 14 := by
  unfold insE at h
  by_cases ho : ¬ (0 ≤ x.op ∧ x.op < 17 ∧ opB true x.op.toNat = true)
  · rw [if_pos ho] at h; cases h
  rw [if_neg ho] at h
  have ho' := Classical.not_not.1 ho
  obtain ⟨o0, o17, ob⟩ := ho'
  obtain ⟨o, hop⟩ : ∃ o : Nat, x.op = (o : Int) := ⟨x.op.toNat, by omega⟩
  rw [hop, Int.toNat_natCast] at h ob
  have ho14 : o < 15 := by
    rcases Nat.lt_or_ge o 15 with h | h
    · exact h
    · exfalso
      have : opB true o = false := by unfold opB; simp; omega
      rw [this] at ob; cases ob
  have key : ∀ a b c : Int, (if a ≠ 0 then a else if b ≠ 0 then b else c) = 0 → a = 0 ∧ b = 0 ∧ c = 0 := fun a b c h => by
    by_cases ha : a = 0
    · by_cases hb : b = 0
      · rw [if_neg (fun k => k ha), if_neg (fun k => k hb)] at h; exact ⟨ha, hb, h⟩
      · rw [if_neg (fun k => k ha), if_pos hb] at h; exact absurd h hb
    · rw [if_pos ha] at h; exact absurd h ha
  obtain ⟨h1, h2, h3⟩ := key _ _ _ h
  clear h key ho ob
  obtain ⟨op, d, a, b⟩ := x
  simp only at *
  subst hop
  have f0 : ∀ (m r k v s : Int), fieldE 114 m r k v s = 0 → 0 ≤ m ∧ m < r := fun m r k v s h => by
    unfold fieldE at h; simp at h; omega
  have fc : ∀ (m r k v s : Int), fieldE 99 m r k v s = 0 → 0 ≤ m ∧ m ≤ 65535 := fun m r k v s h => by
    unfold fieldE at h; simp at h; omega
  have ft : ∀ (m r k v s : Int), fieldE 116 m r k v s = 0 → 0 ≤ m ∧ m < k := fun m r k v s h => by
    unfold fieldE at h; simp at h; omega
  have fs : ∀ (m r k v s : Int), fieldE 115 m r k v s = 0 → 0 ≤ m ∧ m ≤ 99 := fun m r k v s h => by
    unfold fieldE at h; simp at h; omega
  have fv : ∀ (m r k v s : Int), fieldE 118 m r k v s = 0 → 0 ≤ m ∧ m < v := fun m r k v s h => by
    unfold fieldE at h; simp at h; omega
  unfold Right
  simp only
  rcases (show o = 0 ∨ o = 1 ∨ o = 2 ∨ o = 3 ∨ o = 4 ∨ o = 5 ∨ o = 6 ∨ o = 7 ∨ o = 8 ∨ o = 9 ∨ o = 10 ∨ o = 11 ∨ o = 12 ∨ o = 13 ∨ o = 14 by omega) with rfl | rfl | rfl | rfl | rfl | rfl | rfl | rfl | rfl | rfl | rfl | rfl | rfl | rfl | rfl
  · have g1 := f0 _ _ _ _ _ h1; have g2 := fc _ _ _ _ _ h2; omega
  · have g1 := f0 _ _ _ _ _ h1; have g2 := f0 _ _ _ _ _ h2; omega
  · have g1 := f0 _ _ _ _ _ h1; have g2 := f0 _ _ _ _ _ h2; have g3 := f0 _ _ _ _ _ h3; omega
  · have g1 := f0 _ _ _ _ _ h1; have g2 := f0 _ _ _ _ _ h2; have g3 := f0 _ _ _ _ _ h3; omega
  · have g1 := f0 _ _ _ _ _ h1; have g2 := f0 _ _ _ _ _ h2; have g3 := f0 _ _ _ _ _ h3; omega
  · have g1 := f0 _ _ _ _ _ h1; have g2 := f0 _ _ _ _ _ h2; have g3 := f0 _ _ _ _ _ h3; omega
  · have g1 := f0 _ _ _ _ _ h1; have g2 := f0 _ _ _ _ _ h2; have g3 := f0 _ _ _ _ _ h3; omega
  · have g2 := ft _ _ _ _ _ h2; omega
  · have g2 := f0 _ _ _ _ _ h2; have g3 := ft _ _ _ _ _ h3; omega
  · have g2 := f0 _ _ _ _ _ h2; omega
  · have g2 := f0 _ _ _ _ _ h2; omega
  · have g2 := fs _ _ _ _ _ h2; omega
  · have g1 := fv _ _ _ _ _ h1; have g2 := f0 _ _ _ _ _ h2; omega
  · have g1 := fv _ _ _ _ _ h1; have g2 := fc _ _ _ _ _ h2; omega
  · have g1 := fv _ _ _ _ _ h1; omega

theorem codedFrom_ok (p : Bool) (L : List In4) (r v s : Int) : ∀ (m k : Nat), k + m = L.length → (codedFrom p L r v s k m).1 = 0 → (∀ i, k ≤ i → i < L.length → insE p (inAt L i) r L.length v s = 0) ∧ ((inAt L (L.length - 1)).op = 7 ∨ (inAt L (L.length - 1)).op = 10)
  | 0, k, hk, h => by
    refine ⟨fun i h1 h2 => by omega, ?_⟩
    unfold codedFrom at h
    by_cases hc : (inAt L (L.length - 1)).op ≠ 7 ∧ (inAt L (L.length - 1)).op ≠ 10
    · rw [if_pos hc] at h; cases h
    · omega
  | m + 1, k, hk, h => by
    unfold codedFrom at h
    by_cases hc : insE p (inAt L k) r L.length v s ≠ 0
    · rw [if_pos hc] at h; exact absurd h hc
    · rw [if_neg hc] at h
      obtain ⟨h1, h2⟩ := codedFrom_ok p L r v s m (k + 1) (by omega) h
      refine ⟨fun i hi hl => ?_, h2⟩
      by_cases hik : i = k
      · subst hik; exact Classical.not_not.1 hc
      · exact h1 i (by omega) hl

/-- What a right program keeps to. -/
structure RightP (P R V : Int) (L : List In4) : Prop where
  r1 : 1 ≤ R
  r12 : R ≤ 12
  p0 : 0 ≤ P
  p4 : P ≤ 4
  pr : P ≤ R
  v0 : 0 ≤ V
  v4 : V ≤ 4
  n1 : 1 ≤ L.length
  n40 : L.length ≤ 40
  ins : ∀ i, i < L.length → Right R L.length V (inAt L i)
  last : (inAt L (L.length - 1)).op = 7 ∨ (inAt L (L.length - 1)).op = 10
  low : ∀ i, i < L.length → (inAt L i).op ≤ 14
theorem rightP_of (P R V : Int) (L : List In4) (h : (progE P R V L).1 = 0) : RightP P R V L := by
  by_cases hs : SizeBad P R V L.length
  · rw [progE_bad hs] at h; cases h
  · rw [progE_good hs] at h
    obtain ⟨h1, h2⟩ := codedFrom_ok true L R V 0 L.length 0 (by omega) h
    unfold SizeBad at hs
    exact ⟨by omega, by omega, by omega, by omega, by omega, by omega, by omega, by omega, by omega, fun i hi => (right_of_insE _ _ _ _ (h1 i (Nat.zero_le _) hi)).1, h2, fun i hi => (right_of_insE _ _ _ _ (h1 i (Nat.zero_le _) hi)).2⟩

/-- What a run keeps to. -/
structure StOk (L : List In4) (V : Int) (s : St) : Prop where
  at_ : s.on = true → s.at_ < L.length
  regs : ∀ i, 0 ≤ s.regs i ∧ s.regs i ≤ 65535
  vars : ∀ i : Nat, V ≤ (i : Int) → s.vars i = -1
  outs : s.outs.length ≤ s.steps
  stops : s.stops.length ≤ s.steps
  kind : s.on = true → s.kind = 2 ∧ s.val = 0
  env : s.env = progEnv

theorem reach_ok (op a b : Int) (ha : 0 ≤ a ∧ a ≤ 65535) (hb : 0 ≤ b ∧ b ≤ 65535) : reachE op a b = -1 ∨ (0 ≤ reachE op a b ∧ reachE op a b ≤ 65535) := by
  unfold reachE
  by_cases h2 : op = 2
  · rw [if_pos h2]; omega
  rw [if_neg h2]
  by_cases h3 : op = 3
  · rw [if_pos h3]; omega
  rw [if_neg h3]
  by_cases h4 : op = 4
  · rw [if_pos h4]; right; generalize a * b = q; omega
  rw [if_neg h4]
  by_cases h5 : op = 5
  · rw [if_pos h5]
    by_cases h0 : b = 0
    · rw [if_pos h0]; exact .inl rfl
    · rw [if_neg h0]
      have g0 : 0 ≤ a / b := Int.ediv_nonneg ha.1 hb.1
      have g1 : a / b ≤ a := Int.ediv_le_self _ ha.1
      right; generalize a / b = q at g0 g1; omega
  rw [if_neg h5]
  by_cases h : a < b
  · rw [if_pos h]; omega
  · rw [if_neg h]; omega

theorem upd_ok (f : Nat → Int) (d : Nat) (v : Int) (hf : ∀ i, 0 ≤ f i ∧ f i ≤ 65535) (hv : 0 ≤ v ∧ v ≤ 65535) : ∀ i, 0 ≤ upd f d v i ∧ upd f d v i ≤ 65535 := fun i => by
  unfold upd; split
  · exact hv
  · exact hf i

/-- A step keeps to it, and counts one. -/
theorem step_ok {P R V : Int} {L : List In4} (hp : RightP P R V L) {s : St} (h : StOk L V s) (hon : s.on = true) : StOk L V (stepSt (inAt L s.at_) s) ∧ (stepSt (inAt L s.at_) s).steps = s.steps + 1 := by
  have hat := h.at_ hon
  have hx := hp.ins s.at_ hat
  have hlow := hp.low s.at_ hat
  have hlast := hp.last
  obtain ⟨x, hxe⟩ : ∃ x, x = inAt L s.at_ := ⟨_, rfl⟩
  have hne : x.op ≠ 7 → x.op ≠ 10 → s.at_ + 1 < L.length := fun h7 h10 => by
    rcases Nat.lt_or_ge (s.at_ + 1) L.length with h | h
    · exact h
    · exfalso
      have : L.length - 1 = s.at_ := by omega
      rw [this, ← hxe] at hlast
      rcases hlast with h | h
      · exact h7 h
      · exact h10 h
  rw [← hxe] at hx hlow ⊢
  clear hlast hxe
  obtain ⟨o0, _, rD, rA, rB, rC, rJ, rI, rS, rV, _, _⟩ := hx
  have hk := h.kind hon
  have hok : ∀ s' : St, (s'.on = true → s'.at_ < L.length) → (∀ i, 0 ≤ s'.regs i ∧ s'.regs i ≤ 65535) → (∀ i : Nat, V ≤ (i : Int) → s'.vars i = -1) → s'.outs.length ≤ s'.steps → s'.stops.length ≤ s'.steps → (s'.on = true → s'.kind = 2 ∧ s'.val = 0) → s'.steps = s.steps + 1 → s'.env = s.env → StOk L V s' ∧ s'.steps = s.steps + 1 :=
    fun s' a b c d e f g k => ⟨⟨a, b, c, d, e, f, k.trans h.env⟩, g⟩
  have ho := h.outs
  have hs := h.stops
  unfold stepSt
  rcases (show x.op = 0 ∨ x.op = 1 ∨ (2 ≤ x.op ∧ x.op ≤ 6) ∨ x.op = 7 ∨ x.op = 8 ∨ x.op = 9 ∨ x.op = 10 ∨ x.op = 11 ∨ x.op = 12 ∨ x.op = 13 ∨ x.op = 14 by omega) with e | e | e | e | e | e | e | e | e | e | e
  · have : doSt x (preSt x s) = s.next.reg x.d.toNat x.a := by
      unfold preSt; rw [if_neg (by omega), if_neg (by omega), if_neg (by omega), if_neg (by omega), if_neg (by omega), if_neg (by omega)]; unfold doSt; rw [if_pos e]
    rw [this]
    exact hok _ (fun _ => hne (by omega) (by omega)) (upd_ok _ _ _ h.regs (rC (.inl e))) h.vars (Nat.le_succ_of_le ho) (Nat.le_succ_of_le hs) (fun _ => hk) rfl rfl
  · have : doSt x (preSt x s) = s.next.reg x.d.toNat (s.regs x.a.toNat) := by
      unfold preSt; rw [if_neg (by omega), if_neg (by omega), if_neg (by omega), if_neg (by omega), if_neg (by omega), if_neg (by omega)]; unfold doSt; rw [if_neg (by omega), if_pos e]
    rw [this]
    exact hok _ (fun _ => hne (by omega) (by omega)) (upd_ok _ _ _ h.regs (h.regs _)) h.vars (Nat.le_succ_of_le ho) (Nat.le_succ_of_le hs) (fun _ => hk) rfl rfl
  · have : doSt x (preSt x s) = s.next.reckon x.op x.d.toNat x.a.toNat x.b.toNat := by
      unfold preSt; rw [if_neg (by omega), if_neg (by omega), if_neg (by omega), if_neg (by omega), if_neg (by omega), if_neg (by omega)]; unfold doSt
      rw [if_neg (by omega), if_neg (by omega), if_neg (by omega), if_neg (by omega), if_neg (by omega), if_neg (by omega), if_pos e]
    rw [this]
    unfold St.reckon
    rcases reach_ok x.op (s.regs x.a.toNat) (s.regs x.b.toNat) (h.regs _) (h.regs _) with hr | hr
    · rw [if_pos (by show reachE x.op (s.regs x.a.toNat) (s.regs x.b.toNat) < 0; omega)]
      exact hok _ (fun k => by cases k) h.regs h.vars (Nat.le_succ_of_le ho) (Nat.le_succ_of_le hs) (fun k => by cases k) rfl rfl
    · rw [if_neg (by show ¬ reachE x.op (s.regs x.a.toNat) (s.regs x.b.toNat) < 0; omega)]
      exact hok _ (fun _ => hne (by omega) (by omega)) (upd_ok _ _ _ h.regs hr) h.vars (Nat.le_succ_of_le ho) (Nat.le_succ_of_le hs) (fun _ => hk) rfl rfl
  · have : doSt x (preSt x s) = s.next.goto x.a.toNat := by
      unfold preSt; rw [if_neg (by omega), if_neg (by omega), if_neg (by omega), if_neg (by omega), if_neg (by omega), if_neg (by omega)]; unfold doSt; rw [if_neg (by omega), if_neg (by omega), if_pos e]
    rw [this]
    exact hok _ (fun _ => by have := rJ e; show x.a.toNat < L.length; omega) h.regs h.vars (Nat.le_succ_of_le ho) (Nat.le_succ_of_le hs) (fun _ => hk) rfl rfl
  · have : doSt x (preSt x s) = if s.regs x.a.toNat = 0 then s.next else s.next.goto x.b.toNat := by
      unfold preSt; rw [if_neg (by omega), if_neg (by omega), if_neg (by omega), if_neg (by omega), if_neg (by omega), if_neg (by omega)]; unfold doSt; rw [if_neg (by omega), if_neg (by omega), if_neg (by omega), if_pos e]
    rw [this]
    by_cases hz : s.regs x.a.toNat = 0
    · rw [if_pos hz]
      exact hok _ (fun _ => hne (by omega) (by omega)) h.regs h.vars (Nat.le_succ_of_le ho) (Nat.le_succ_of_le hs) (fun _ => hk) rfl rfl
    · rw [if_neg hz]
      exact hok _ (fun _ => by have := rI e; show x.b.toNat < L.length; omega) h.regs h.vars (Nat.le_succ_of_le ho) (Nat.le_succ_of_le hs) (fun _ => hk) rfl rfl
  · have : doSt x (preSt x s) = s.next.out (s.regs x.a.toNat) := by
      unfold preSt; rw [if_neg (by omega), if_neg (by omega), if_neg (by omega), if_neg (by omega), if_neg (by omega), if_neg (by omega)]; unfold doSt; rw [if_neg (by omega), if_neg (by omega), if_neg (by omega), if_neg (by omega), if_pos e]
    rw [this]
    exact hok _ (fun _ => hne (by omega) (by omega)) h.regs h.vars (by show (s.outs ++ [_]).length ≤ s.steps + 1; rw [List.length_append]; exact Nat.succ_le_succ ho) (Nat.le_succ_of_le hs) (fun _ => hk) rfl rfl
  · have : doSt x (preSt x s) = s.next.ended 0 (s.regs x.a.toNat) := by
      unfold preSt; rw [if_neg (by omega), if_neg (by omega), if_neg (by omega), if_neg (by omega), if_neg (by omega), if_neg (by omega)]; unfold doSt; rw [if_neg (by omega), if_neg (by omega), if_neg (by omega), if_neg (by omega), if_neg (by omega), if_pos e]
    rw [this]
    exact hok _ (fun k => by cases k) h.regs h.vars (Nat.le_succ_of_le ho) (Nat.le_succ_of_le hs) (fun k => by cases k) rfl rfl
  all_goals
    have hd : ∀ s', doSt x s' = s'.next := fun s' => by
      unfold doSt; rw [if_neg (by omega), if_neg (by omega), if_neg (by omega), if_neg (by omega), if_neg (by omega), if_neg (by omega), if_neg (by omega)]
    rw [hd]
    unfold preSt
  · rw [if_pos e]
    exact hok _ (fun _ => hne (by omega) (by omega)) h.regs h.vars (Nat.le_succ_of_le ho) (by show (s.stops ++ [_]).length ≤ s.steps + 1; rw [List.length_append]; exact Nat.succ_le_succ hs) (fun _ => hk) rfl rfl
  · rw [if_neg (by omega), if_pos e]
    exact hok _ (fun _ => hne (by omega) (by omega)) h.regs (fun i hi => by have := rV (by omega); show upd s.vars x.d.toNat _ i = -1; rw [upd_other _ _ (by omega)]; exact h.vars i hi) (Nat.le_succ_of_le ho) (Nat.le_succ_of_le hs) (fun _ => hk) rfl rfl
  · rw [if_neg (by omega), if_neg (by omega), if_pos e]
    exact hok _ (fun _ => hne (by omega) (by omega)) h.regs (fun i hi => by have := rV (by omega); show upd s.vars x.d.toNat _ i = -1; rw [upd_other _ _ (by omega)]; exact h.vars i hi) (Nat.le_succ_of_le ho) (Nat.le_succ_of_le hs) (fun _ => hk) rfl rfl
  · rw [if_neg (by omega), if_neg (by omega), if_neg (by omega), if_pos e]
    exact hok _ (fun _ => hne (by omega) (by omega)) h.regs (fun i hi => by have := rV (by omega); show upd s.vars x.d.toNat _ i = -1; rw [upd_other _ _ (by omega)]; exact h.vars i hi) (Nat.le_succ_of_le ho) (Nat.le_succ_of_le hs) (fun _ => hk) rfl rfl

theorem run_off (L : List In4) (m : Nat) (s : St) (h : s.on = false) : runSt L m s = s := by
  cases m with
  | zero => rfl
  | succ m => unfold runSt; rw [h]; rfl
theorem run_on {L : List In4} {m : Nat} {s : St} (hm : 0 < m) (h : s.on = true) : runSt L m s = runSt L (m - 1) (stepSt (inAt L s.at_) s) := by
  obtain ⟨k, rfl⟩ : ∃ k, m = k + 1 := ⟨m - 1, by omega⟩
  show (if s.on then _ else _) = _
  rw [h]; rfl

/-- The answer of a run: its error, and what it came to. -/
def zst : St := ⟨0, fun _ => 0, fun _ => 0, false, 0, 0, 0, [], [], progEnv⟩
end Go.Proofs.YtoepcplbpochpaaDoor

/-
  What comes of an instruction: (*lodge.writer).writeCopy, writeIns.
-/
namespace Go.Proofs.YtoepcplbpochpaaDoor
open Go.RowKit

/-- What comes of a Copy. -/
def copyC (hs : Nat → Bool) (ha : Nat → Nat) (K d a : Nat) : List In4 :=
  if hs d = true then fetC hs ha K a 0 ++ [⟨16, ha d, fetR hs ha K a 0, 0⟩] else if hs a = true then [⟨15, ha d, ha a, 0⟩] else [⟨1, ha d, ha a, 0⟩]
/-- What comes of an instruction, with its target as it is in the program. -/
def insC (hs : Nat → Bool) (ha : Nat → Nat) (K : Nat) (x : In4) : List In4 :=
  if x.op = 0 then [⟨0, goalR hs ha K x.d.toNat, x.a, 0⟩] ++ keepC hs ha K x.d.toNat else
  if x.op = 1 then copyC hs ha K x.d.toNat x.a.toNat else
  if 2 ≤ x.op ∧ x.op ≤ 6 then fetC hs ha K x.a.toNat 0 ++ fetC hs ha K x.b.toNat 1 ++ [⟨x.op, goalR hs ha K x.d.toNat, fetR hs ha K x.a.toNat 0, fetR hs ha K x.b.toNat 1⟩] ++ keepC hs ha K x.d.toNat else
  if x.op = 8 then fetC hs ha K x.a.toNat 0 ++ [⟨8, 0, fetR hs ha K x.a.toNat 0, x.b⟩] else
  if x.op = 9 ∨ x.op = 10 then fetC hs ha K x.a.toNat 0 ++ [⟨x.op, 0, fetR hs ha K x.a.toNat 0, 0⟩] else
  if x.op = 7 ∨ x.op = 11 then [⟨x.op, 0, x.a, 0⟩] else []

theorem fetC_len (hs : Nat → Bool) (ha : Nat → Nat) (K r n : Nat) : (fetC hs ha K r n).length ≤ 1 := by unfold fetC; split <;> simp
theorem keepC_len (hs : Nat → Bool) (ha : Nat → Nat) (K r : Nat) : (keepC hs ha K r).length ≤ 1 := by unfold keepC; split <;> simp

/-- The writer amid an instruction: what it has written, and the instruction in its box N. -/
structure WIns (w0 : World) (B N : Nat) (sv0 : Value) (x : In4) (hs : Nat → Bool) (ha : Nat → Nat) (K : Nat) (st : Nat → Nat) (C : List In4) (w : World) (sv : Value) : Prop where
  wr : WrB w B hs ha K st C sv
  step : WrStep B w0 sv0 w sv
  box : At4 w N 0 x
  apart : some N ≠ sv.ownBlock
  lt : N < w.heap.size
  ne : N ≠ B
theorem WIns.go {w0 w w' : World} {B N : Nat} {sv0 sv sv' : Value} {x : In4} {hs : Nat → Bool} {ha : Nat → Nat} {K : Nat} {st : Nat → Nat} {C C' : List In4} (h : WIns w0 B N sv0 x hs ha K st C w sv) (hw : WrB w' B hs ha K st C' sv') (hS : WrStep B w sv w' sv') : WIns w0 B N sv0 x hs ha K st C' w' sv' := by
  have hbl := hS.block h.lt h.ne h.apart
  exact ⟨hw, h.step.trans hS, ⟨(World.cell?_of_block hbl).trans h.box.1, (World.cell?_of_block hbl).trans h.box.2.1, (World.cell?_of_block hbl).trans h.box.2.2.1, (World.cell?_of_block hbl).trans h.box.2.2.2⟩, hS.fresh N h.lt h.apart, Nat.lt_of_lt_of_le h.lt hS.keep.size, h.ne⟩
theorem WIns.below {w0 w w' : World} {B N : Nat} {sv0 sv : Value} {x : In4} {hs : Nat → Bool} {ha : Nat → Nat} {K : Nat} {st : Nat → Nat} {C : List In4} (h : WIns w0 B N sv0 x hs ha K st C w sv) (hb : Below w.heap.size w w') : WIns w0 B N sv0 x hs ha K st C w' sv := h.go (h.wr.below hb) (.below hb)
theorem WIns.post {w0 w : World} {B N : Nat} {sv0 sv : Value} {x : In4} {hs : Nat → Bool} {ha : Nat → Nat} {K : Nat} {st : Nat → Nat} {C C' : List In4} (h : WIns w0 B N sv0 x hs ha K st C w sv) (e : C = C') : WPost w0 B hs ha K st C' sv0 (.tuple #[]) (.returned (.tuple #[])) w := ⟨rfl, sv, e ▸ h.wr, h.step⟩
theorem open_ins {w : World} {B : Nat} {sv : Value} {hs : Nat → Bool} {ha : Nat → Nat} {K : Nat} {st : Nat → Nat} {C : List In4} (h : WrB w B hs ha K st C sv) (x : In4) : ∃ w2, w2 = w.alloc (.cells #[.int .i64 x.op, .int .i64 x.d, .int .i64 x.a, .int .i64 x.b] 77) ∧ Hid (WIns w B w.heap.size sv x hs ha K st C w2 sv) := by
  obtain ⟨w2, hw2, hq, HB2, hz⟩ := box4 w x
  exact ⟨w2, hw2, h.below (unhide HB2), .below (unhide HB2), hq, h.apart (Nat.le_refl _), hz, by have := h.lt; omega⟩

set_option maxRecDepth 100000 in
set_option maxHeartbeats 8000000 in
theorem writeIns_any (copy : ∀ (B : Nat) (hs : Nat → Bool) (ha : Nat → Nat) (K : Nat) (st : Nat → Nat) (C : List In4) (sv : Value) (d a : Nat) (b : Int) (w : World), WrB w B hs ha K st C sv → 2 ≤ K → K ≤ 16 → d < 12 → a < 12 → C.length ≤ 900 →
      Calls Tryd.prog 129 #[.pointer (some ⟨B, 0, none⟩), .agg #[.int .i64 1, .int .i64 d, .int .i64 a, .int .i64 b]] w (WPost w B hs ha K st (C ++ copyC hs ha K d a) sv (.tuple #[])))
    (B : Nat) (hs : Nat → Bool) (ha : Nat → Nat) (K : Nat) (st : Nat → Nat) (C : List In4) (sv : Value) (x : In4) (R n V : Int) (w : World) (h : WrB w B hs ha K st C sv) (hK : 2 ≤ K) (hK' : K ≤ 16) (hx : Right R n V x) (hR : R ≤ 12) (hlow : x.op ≤ 14) (hl : C.length ≤ 900) :
    Calls Tryd.prog 99 #[.pointer (some ⟨B, 0, none⟩), .agg #[.int .i64 x.op, .int .i64 x.d, .int .i64 x.a, .int .i64 x.b]] w (WPost w B hs ha K st (C ++ insC hs ha K x) sv (.tuple #[])) := by
  have KF := hide (fun w C sv (h : WrB w B hs ha K st C sv) r n hr hn hl => fetch_any B hs ha K st C sv r n w h hK hK' hr hn hl)
  have KG := hide (fun w C sv (h : WrB w B hs ha K st C sv) r hr => goal_any B hs ha K st C sv r w h hK hK' hr)
  have KK := hide (fun w C sv (h : WrB w B hs ha K st C sv) r hr hl => keep_any B hs ha K st C sv r w h hK hK' hr hl)
  have KP := hide (fun w C sv (h : WrB w B hs ha K st C sv) x hl => put1_any B hs ha K st C sv x w h hl)
  have KC := hide (fun w C sv (h : WrB w B hs ha K st C sv) d a b hd ha' hl => copy B hs ha K st C sv d a b w h hK hK' hd ha' hl)
  obtain ⟨w2, hw2, HS2⟩ := open_ins h x
  have HW := hide hw2
  have HLF := hide (fun r n => fetC_len hs ha K r n)
  clear h hw2 copy
  obtain ⟨o0, _, rD, rA, rB, _⟩ := hx
  obtain ⟨op, d, a, b⟩ := x
  simp only at *
  rcases (show op = 0 ∨ op = 1 ∨ (2 ≤ op ∧ op ≤ 6) ∨ op = 8 ∨ (op = 9 ∨ op = 10) ∨ (op = 7 ∨ op = 11) ∨ (12 ≤ op ∧ op ≤ 14) by omega) with rfl | rfl | ho | rfl | ho | ho | ho
  -- Const
  · obtain ⟨d0, d1⟩ := rD (.inl rfl)
    obtain ⟨dn, rfl⟩ : ∃ dn : Nat, d = dn := ⟨d.toNat, by omega⟩
    have hdn : dn < 12 := by omega
    clear rA rB rD d0 d1
    obtain ⟨q0, q1, q2, q3⟩ := (unhide HS2).box
    simp only at q0 q1 q2 q3
    go_enter Tryd.func99, Tryd.ntmps99
    go_wp2_with fail
    rw [← unhide HW]
    go_wp2_with fail
    refine (unhide KG w2 C sv (unhide HS2).wr dn hdn).mono ?_
    rintro e w3 ⟨rfl, hb3⟩
    have HS3 := hide ((unhide HS2).below hb3)
    clear hb3 HS2 q0 q1 q2 q3
    obtain ⟨q0, q1, q2, q3⟩ := (unhide HS3).box
    simp only at q0 q1 q2 q3
    go_wp2_with fail
    refine (unhide KP w3 C sv (unhide HS3).wr ⟨0, goalR hs ha K dn, a, 0⟩ (by omega)).mono ?_
    rintro e w4 ⟨rfl, sv4, hw4, hs4⟩
    have HS4 := hide ((unhide HS3).go hw4 hs4)
    clear hw4 hs4 HS3 q0 q1 q2 q3
    obtain ⟨q0, q1, q2, q3⟩ := (unhide HS4).box
    simp only at q0 q1 q2 q3
    go_wp2_with fail
    refine (unhide KK w4 _ sv4 (unhide HS4).wr dn hdn (by simp; omega)).mono ?_
    rintro e w5 ⟨rfl, sv5, hw5, hs5⟩
    have HS5 := hide ((unhide HS4).go hw5 hs5)
    clear hw5 hs5 HS4 q0 q1 q2 q3
    go_wp2_with fail
    go_returns
    exact (unhide HS5).post (by unfold insC; simp)
  · obtain ⟨d0, d1⟩ := rD (.inr (.inl rfl))
    obtain ⟨dn, rfl⟩ : ∃ dn : Nat, d = dn := ⟨d.toNat, by omega⟩
    have hdn : dn < 12 := by omega
    obtain ⟨a0, a1⟩ := rA (.inl rfl)
    obtain ⟨an, rfl⟩ : ∃ an : Nat, a = an := ⟨a.toNat, by omega⟩
    have han : an < 12 := by omega
    clear rA rB rD d0 d1 a0 a1
    obtain ⟨q0, q1, q2, q3⟩ := (unhide HS2).box
    simp only at q0 q1 q2 q3
    go_enter Tryd.func99, Tryd.ntmps99
    go_wp2_with fail
    rw [← unhide HW]
    go_wp2_with fail
    refine (unhide KC w2 _ sv (unhide HS2).wr dn an b hdn han hl).mono ?_
    rintro e w3 ⟨rfl, sv3, hw, hs'⟩
    have HS3 := hide ((unhide HS2).go hw hs')
    clear hw hs'
    clear HS2 q0 q1 q2 q3
    obtain ⟨q0, q1, q2, q3⟩ := (unhide HS3).box
    simp only at q0 q1 q2 q3
    go_wp2_with fail
    go_returns
    exact (unhide HS3).post (by unfold insC; simp)
  · obtain ⟨d0, d1⟩ := rD (.inr (.inr ho))
    obtain ⟨dn, rfl⟩ : ∃ dn : Nat, d = dn := ⟨d.toNat, by omega⟩
    have hdn : dn < 12 := by omega
    obtain ⟨a0, a1⟩ := rA (.inr (.inl ho))
    obtain ⟨an, rfl⟩ : ∃ an : Nat, a = an := ⟨a.toNat, by omega⟩
    have han : an < 12 := by omega
    obtain ⟨b0, b1⟩ := rB ho
    obtain ⟨bn, rfl⟩ : ∃ bn : Nat, b = bn := ⟨b.toNat, by omega⟩
    have hbn : bn < 12 := by omega
    clear rA rB rD d0 d1 a0 a1 b0 b1
    obtain ⟨ho1, ho2⟩ := ho
    rcases (show op = 2 ∨ op = 3 ∨ op = 4 ∨ op = 5 ∨ op = 6 by omega) with rfl | rfl | rfl | rfl | rfl
    all_goals
      obtain ⟨q0, q1, q2, q3⟩ := (unhide HS2).box
      simp only at q0 q1 q2 q3
      go_enter Tryd.func99, Tryd.ntmps99
      go_wp2_with fail
      rw [← unhide HW]
      go_wp2_with fail
      refine (unhide KF w2 _ sv (unhide HS2).wr an 0 han (by omega) (by have l1 := unhide HLF; simp; first | omega | (have := l1 an 0; omega) | (have := l1 an 0; have := l1 bn 1; omega))).mono ?_
      rintro e w3 ⟨rfl, sv3, hw, hs'⟩
      have HS3 := hide ((unhide HS2).go hw hs')
      clear hw hs'
      clear HS2 q0 q1 q2 q3
      obtain ⟨q0, q1, q2, q3⟩ := (unhide HS3).box
      simp only at q0 q1 q2 q3
      go_wp2_with fail
      refine (unhide KF w3 _ sv3 (unhide HS3).wr bn 1 hbn (by omega) (by have l1 := unhide HLF; simp; first | omega | (have := l1 an 0; omega) | (have := l1 an 0; have := l1 bn 1; omega))).mono ?_
      rintro e w4 ⟨rfl, sv4, hw, hs'⟩
      have HS4 := hide ((unhide HS3).go hw hs')
      clear hw hs'
      clear HS3 q0 q1 q2 q3
      obtain ⟨q0, q1, q2, q3⟩ := (unhide HS4).box
      simp only at q0 q1 q2 q3
      go_wp2_with fail
      refine (unhide KG w4 _ sv4 (unhide HS4).wr dn hdn).mono ?_
      rintro e w5 ⟨rfl, hb⟩
      have HS5 := hide ((unhide HS4).below hb)
      clear hb
      clear HS4 q0 q1 q2 q3
      obtain ⟨q0, q1, q2, q3⟩ := (unhide HS5).box
      simp only at q0 q1 q2 q3
      go_wp2_with fail
      refine (unhide KP w5 _ sv4 (unhide HS5).wr ⟨_, goalR hs ha K dn, fetR hs ha K an 0, fetR hs ha K bn 1⟩ (by have l1 := unhide HLF; simp; first | omega | (have := l1 an 0; omega) | (have := l1 an 0; have := l1 bn 1; omega))).mono ?_
      rintro e w6 ⟨rfl, sv6, hw, hs'⟩
      have HS6 := hide ((unhide HS5).go hw hs')
      clear hw hs'
      clear HS5 q0 q1 q2 q3
      obtain ⟨q0, q1, q2, q3⟩ := (unhide HS6).box
      simp only at q0 q1 q2 q3
      go_wp2_with fail
      refine (unhide KK w6 _ sv6 (unhide HS6).wr dn hdn (by have l1 := unhide HLF; simp; first | omega | (have := l1 an 0; omega) | (have := l1 an 0; have := l1 bn 1; omega))).mono ?_
      rintro e w7 ⟨rfl, sv7, hw, hs'⟩
      have HS7 := hide ((unhide HS6).go hw hs')
      clear hw hs'
      clear HS6 q0 q1 q2 q3
      obtain ⟨q0, q1, q2, q3⟩ := (unhide HS7).box
      simp only at q0 q1 q2 q3
      go_wp2_with fail
      go_returns
      exact (unhide HS7).post (by unfold insC; simp)
  · obtain ⟨a0, a1⟩ := rA (.inr (.inr (.inl rfl)))
    obtain ⟨an, rfl⟩ : ∃ an : Nat, a = an := ⟨a.toNat, by omega⟩
    have han : an < 12 := by omega
    clear rA rB rD a0 a1
    obtain ⟨q0, q1, q2, q3⟩ := (unhide HS2).box
    simp only at q0 q1 q2 q3
    go_enter Tryd.func99, Tryd.ntmps99
    go_wp2_with fail
    rw [← unhide HW]
    go_wp2_with fail
    refine (unhide KF w2 _ sv (unhide HS2).wr an 0 han (by omega) (by have l1 := unhide HLF; simp; first | omega | (have := l1 an 0; omega) | (have := l1 an 0; have := l1 an 1; omega))).mono ?_
    rintro e w3 ⟨rfl, sv3, hw, hs'⟩
    have HS3 := hide ((unhide HS2).go hw hs')
    clear hw hs'
    clear HS2 q0 q1 q2 q3
    obtain ⟨q0, q1, q2, q3⟩ := (unhide HS3).box
    simp only at q0 q1 q2 q3
    go_wp2_with fail
    refine (unhide KP w3 _ sv3 (unhide HS3).wr ⟨8, 0, fetR hs ha K an 0, b⟩ (by have l1 := unhide HLF; simp; first | omega | (have := l1 an 0; omega) | (have := l1 an 0; have := l1 an 1; omega))).mono ?_
    rintro e w4 ⟨rfl, sv4, hw, hs'⟩
    have HS4 := hide ((unhide HS3).go hw hs')
    clear hw hs'
    clear HS3 q0 q1 q2 q3
    obtain ⟨q0, q1, q2, q3⟩ := (unhide HS4).box
    simp only at q0 q1 q2 q3
    go_wp2_with fail
    go_returns
    exact (unhide HS4).post (by unfold insC; simp)
  · obtain ⟨a0, a1⟩ := rA (by omega)
    obtain ⟨an, rfl⟩ : ∃ an : Nat, a = an := ⟨a.toNat, by omega⟩
    have han : an < 12 := by omega
    clear rA rB rD a0 a1
    rcases ho with rfl | rfl
    all_goals
      obtain ⟨q0, q1, q2, q3⟩ := (unhide HS2).box
      simp only at q0 q1 q2 q3
      go_enter Tryd.func99, Tryd.ntmps99
      go_wp2_with fail
      rw [← unhide HW]
      go_wp2_with fail
      refine (unhide KF w2 _ sv (unhide HS2).wr an 0 han (by omega) (by have l1 := unhide HLF; simp; first | omega | (have := l1 an 0; omega) | (have := l1 an 0; have := l1 an 1; omega))).mono ?_
      rintro e w3 ⟨rfl, sv3, hw, hs'⟩
      have HS3 := hide ((unhide HS2).go hw hs')
      clear hw hs'
      clear HS2 q0 q1 q2 q3
      obtain ⟨q0, q1, q2, q3⟩ := (unhide HS3).box
      simp only at q0 q1 q2 q3
      go_wp2_with fail
      refine (unhide KP w3 _ sv3 (unhide HS3).wr ⟨_, 0, fetR hs ha K an 0, 0⟩ (by have l1 := unhide HLF; simp; first | omega | (have := l1 an 0; omega) | (have := l1 an 0; have := l1 an 1; omega))).mono ?_
      rintro e w4 ⟨rfl, sv4, hw, hs'⟩
      have HS4 := hide ((unhide HS3).go hw hs')
      clear hw hs'
      clear HS3 q0 q1 q2 q3
      obtain ⟨q0, q1, q2, q3⟩ := (unhide HS4).box
      simp only at q0 q1 q2 q3
      go_wp2_with fail
      go_returns
      exact (unhide HS4).post (by unfold insC; simp)
  · clear rA rB rD
    rcases ho with rfl | rfl
    all_goals
      obtain ⟨q0, q1, q2, q3⟩ := (unhide HS2).box
      simp only at q0 q1 q2 q3
      go_enter Tryd.func99, Tryd.ntmps99
      go_wp2_with fail
      rw [← unhide HW]
      go_wp2_with fail
      refine (unhide KP w2 _ sv (unhide HS2).wr ⟨_, 0, a, 0⟩ (by have l1 := unhide HLF; simp; first | omega | (have := l1 0 0; omega) | (have := l1 0 0; have := l1 0 1; omega))).mono ?_
      rintro e w3 ⟨rfl, sv3, hw, hs'⟩
      have HS3 := hide ((unhide HS2).go hw hs')
      clear hw hs'
      clear HS2 q0 q1 q2 q3
      obtain ⟨q0, q1, q2, q3⟩ := (unhide HS3).box
      simp only at q0 q1 q2 q3
      go_wp2_with fail
      go_returns
      exact (unhide HS3).post (by unfold insC; simp)
  · clear rA rB rD
    obtain ⟨ho1, ho2⟩ := ho
    rcases (show op = 12 ∨ op = 13 ∨ op = 14 by omega) with rfl | rfl | rfl
    all_goals
      obtain ⟨q0, q1, q2, q3⟩ := (unhide HS2).box
      simp only at q0 q1 q2 q3
      go_enter Tryd.func99, Tryd.ntmps99
      go_wp2_with fail
      rw [← unhide HW]
      go_wp2_with fail
      go_returns
      exact (unhide HS2).post (by unfold insC; simp)
end Go.Proofs.YtoepcplbpochpaaDoor
