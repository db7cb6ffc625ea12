/-
  The code of a unit: (*lodge.writer).writeProg.
-/
import Derived.Test.YtoepcplbpochpabDoorPart11
import Derived.Test.YtoepcplbpochpabDoorPart8
import Derived.Test.YtoepcplbpochpabDoorPart1
import Derived.Deep.RegionHeld3
import Derived.Handy

namespace Go.Proofs.YtoepcplbpochpabDoor
open Go.RowKit

/-- What comes of the first i instructions, behind the args. -/
def wTo (hs : Nat → Bool) (ha : Nat → Nat) (K : Nat) (s : Nat → Bool) (P : Nat) (L : List In4) : Nat → List In4
  | 0 => loadC hs ha s P
  | i + 1 => wTo hs ha K s P L i ++ insC hs ha K (inAt L i)
/-- Where what comes of the first i instructions begins. -/
def stF (hs : Nat → Bool) (ha : Nat → Nat) (K : Nat) (s : Nat → Bool) (P : Nat) (L : List In4) (i : Nat) : Nat → Nat := fun j => if j < i then (wTo hs ha K s P L j).length else 0
/-- The unit's code. -/
def codeB (hs : Nat → Bool) (ha : Nat → Nat) (K : Nat) (s : Nat → Bool) (P : Nat) (L : List In4) : List In4 := (wTo hs ha K s P L L.length).map (tgt (stF hs ha K s P L L.length))

theorem copyC_len (hs : Nat → Bool) (ha : Nat → Nat) (K d a : Nat) : 1 ≤ (copyC hs ha K d a).length ∧ (copyC hs ha K d a).length ≤ 2 := by
  unfold copyC
  have := fetC_len hs ha K a 0
  split
  · rw [List.length_append]; simp; omega
  · split <;> simp
theorem insC_len (hs : Nat → Bool) (ha : Nat → Nat) (K : Nat) (x : In4) : (insC hs ha K x).length ≤ 4 := by
  unfold insC
  have h1 := fetC_len hs ha K x.a.toNat 0
  have h2 := fetC_len hs ha K x.b.toNat 1
  have h3 := keepC_len hs ha K x.d.toNat
  have h4 := copyC_len hs ha K x.d.toNat x.a.toNat
  split
  · rw [List.length_append]; simp; omega
  split
  · omega
  split
  · rw [List.length_append, List.length_append, List.length_append]; simp; omega
  split
  · rw [List.length_append]; simp; omega
  split
  · rw [List.length_append]; simp; omega
  split <;> simp
theorem wTo_len (hs : Nat → Bool) (ha : Nat → Nat) (K : Nat) (s : Nat → Bool) (P : Nat) (L : List In4) : ∀ i, (wTo hs ha K s P L i).length ≤ P + 4 * i
  | 0 => loadC_len hs ha s P
  | i + 1 => by
    have h1 := wTo_len hs ha K s P L i
    have h2 := insC_len hs ha K (inAt L i)
    show (_ ++ _ : List In4).length ≤ _
    rw [List.length_append]; omega
theorem stF_step (hs : Nat → Bool) (ha : Nat → Nat) (K : Nat) (s : Nat → Bool) (P : Nat) (L : List In4) (i j : Nat) : stF hs ha K s P L (i + 1) j = if j = i then (wTo hs ha K s P L i).length else stF hs ha K s P L i j := by
  unfold stF
  by_cases e : j = i
  · subst e; rw [if_pos (by omega), if_pos rfl]
  · rw [if_neg e]
    by_cases h : j < i
    · rw [if_pos h, if_pos (by omega)]
    · rw [if_neg h, if_neg (by omega)]

/-- Which targets stand in what was written. -/
def TgOk (x : In4) : Prop := (x.op = 7 → 0 ≤ x.a ∧ x.a < 40) ∧ (x.op = 8 → 0 ≤ x.b ∧ x.b < 40)
theorem tgOk_other {x : In4} (h7 : x.op ≠ 7) (h8 : x.op ≠ 8) : TgOk x := ⟨fun h => absurd h h7, fun h => absurd h h8⟩
theorem fetC_tg (hs : Nat → Bool) (ha : Nat → Nat) (K r n : Nat) : ∀ y ∈ fetC hs ha K r n, TgOk y := fun y hy => by
  unfold fetC at hy
  split at hy
  · rw [List.mem_singleton] at hy; subst hy; exact tgOk_other (by show (15 : Int) ≠ 7; decide) (by show (15 : Int) ≠ 8; decide)
  · cases hy
theorem keepC_tg (hs : Nat → Bool) (ha : Nat → Nat) (K r : Nat) : ∀ y ∈ keepC hs ha K r, TgOk y := fun y hy => by
  unfold keepC at hy
  split at hy
  · rw [List.mem_singleton] at hy; subst hy; exact tgOk_other (by show (16 : Int) ≠ 7; decide) (by show (16 : Int) ≠ 8; decide)
  · cases hy
theorem insC_tg (hs : Nat → Bool) (ha : Nat → Nat) (K : Nat) {x : In4} {R V : Int} {n : Nat} (hn : n ≤ 40) (hx : Right R n V x) : ∀ y ∈ insC hs ha K x, TgOk y := fun y hy => by
  unfold insC at hy
  split at hy
  · rw [List.mem_append, List.mem_singleton] at hy
    rcases hy with rfl | hy
    · exact tgOk_other (by show (0 : Int) ≠ 7; decide) (by show (0 : Int) ≠ 8; decide)
    · exact keepC_tg _ _ _ _ y hy
  split at hy
  · unfold copyC at hy
    split at hy
    · rw [List.mem_append, List.mem_singleton] at hy
      rcases hy with hy | rfl
      · exact fetC_tg _ _ _ _ _ y hy
      · exact tgOk_other (by show (16 : Int) ≠ 7; decide) (by show (16 : Int) ≠ 8; decide)
    · split at hy
      · rw [List.mem_singleton] at hy; subst hy; exact tgOk_other (by show (15 : Int) ≠ 7; decide) (by show (15 : Int) ≠ 8; decide)
      · rw [List.mem_singleton] at hy; subst hy; exact tgOk_other (by show (1 : Int) ≠ 7; decide) (by show (1 : Int) ≠ 8; decide)
  split at hy
  · rename_i ho
    rw [List.mem_append, List.mem_append, List.mem_append, List.mem_singleton] at hy
    rcases hy with ((hy | hy) | rfl) | hy
    · exact fetC_tg _ _ _ _ _ y hy
    · exact fetC_tg _ _ _ _ _ y hy
    · exact tgOk_other (by show x.op ≠ 7; omega) (by show x.op ≠ 8; omega)
    · exact keepC_tg _ _ _ _ y hy
  split at hy
  · rename_i ho
    rw [List.mem_append, List.mem_singleton] at hy
    rcases hy with hy | rfl
    · exact fetC_tg _ _ _ _ _ y hy
    · have := hx.2.2.2.2.2.2.2.1 ho
      exact ⟨fun h => by simp at h, fun _ => by show 0 ≤ x.b ∧ x.b < 40; omega⟩
  split at hy
  · rename_i ho
    rw [List.mem_append, List.mem_singleton] at hy
    rcases hy with hy | rfl
    · exact fetC_tg _ _ _ _ _ y hy
    · exact tgOk_other (by show x.op ≠ 7; omega) (by show x.op ≠ 8; omega)
  split at hy
  · rename_i ho
    rw [List.mem_singleton] at hy
    subst hy
    refine ⟨fun h => ?_, fun h => ?_⟩
    · have := hx.2.2.2.2.2.2.1 h; show 0 ≤ x.a ∧ x.a < 40; omega
    · have h' : x.op = 8 := h; omega
  · cases hy
theorem loadC_tg (hs : Nat → Bool) (ha : Nat → Nat) (s : Nat → Bool) : ∀ k, ∀ y ∈ loadC hs ha s k, TgOk y
  | 0, y, hy => by cases hy
  | k + 1, y, hy => by
    have hy' : y ∈ loadC hs ha s k ++ if (s k && !hs k) = true then [⟨15, ha k, k, 0⟩] else [] := hy
    rw [List.mem_append] at hy'
    rcases hy' with hy | hy
    · exact loadC_tg hs ha s k y hy
    · split at hy
      · rw [List.mem_singleton] at hy; subst hy; exact tgOk_other (by show (15 : Int) ≠ 7; decide) (by show (15 : Int) ≠ 8; decide)
      · cases hy
theorem wTo_tg (hs : Nat → Bool) (ha : Nat → Nat) (K : Nat) (s : Nat → Bool) (P : Nat) {L : List In4} {R V : Int} (hn : L.length ≤ 40) (hL : ∀ i, i < L.length → Right R L.length V (inAt L i)) : ∀ i, i ≤ L.length → ∀ y ∈ wTo hs ha K s P L i, TgOk y
  | 0, _, y, hy => loadC_tg hs ha s P y hy
  | i + 1, hi, y, hy => by
    have hy' : y ∈ wTo hs ha K s P L i ++ insC hs ha K (inAt L i) := hy
    rw [List.mem_append] at hy'
    rcases hy' with hy | hy
    · exact wTo_tg hs ha K s P hn hL i (by omega) y hy
    · exact insC_tg hs ha K hn (hL i (by omega)) y hy
theorem inAt_mem {C : List In4} {i : Nat} (h : i < C.length) : inAt C i ∈ C := by
  unfold inAt
  rw [List.getD_eq_getElem?_getD, List.getElem?_eq_getElem h]
  exact List.getElem_mem h
/-- The last instruction is written. -/
theorem wTo_pos (hs : Nat → Bool) (ha : Nat → Nat) (K : Nat) (s : Nat → Bool) (P : Nat) {L : List In4} (hn : 1 ≤ L.length) (hl : (inAt L (L.length - 1)).op = 7 ∨ (inAt L (L.length - 1)).op = 10) : 1 ≤ (wTo hs ha K s P L L.length).length := by
  obtain ⟨m, hm⟩ : ∃ m, L.length = m + 1 := ⟨L.length - 1, by omega⟩
  rw [hm] at hl ⊢
  show 1 ≤ (_ ++ insC hs ha K (inAt L m)).length
  rw [List.length_append]
  have : 1 ≤ (insC hs ha K (inAt L m)).length := by
    rw [show m + 1 - 1 = m by omega] at hl
    unfold insC
    rcases hl with h | h
    · rw [if_neg (by omega), if_neg (by omega), if_neg (by omega), if_neg (by omega), if_neg (by omega), if_pos (.inl h)]; simp
    · rw [if_neg (by omega), if_neg (by omega), if_neg (by omega), if_neg (by omega), if_pos (.inr h), List.length_append]; simp
  omega

theorem WrB.shape {w : World} {B : Nat} {hs : Nat → Bool} {ha : Nat → Nat} {K : Nat} {st : Nat → Nat} {C : List In4} {sv : Value} (h : WrB w B hs ha K st C sv) : ∃ ao cap, sv = .slice ao C.length cap := by
  rcases h.own.2 with ⟨h1, h0⟩ | ⟨g, cap, cur, h1, _⟩
  · exact ⟨none, 0, by rw [h0]; exact h1⟩
  · exact ⟨_, _, h1⟩
theorem WrB.set_start {w : World} {B : Nat} {hs : Nat → Bool} {ha : Nat → Nat} {K : Nat} {st st' : Nat → Nat} {C : List In4} {sv : Value} (h : WrB w B hs ha K st C sv) {i m : Nat} (hst : ∀ j, st' j = if j = i then m else st j) : WrB (w.setCell ⟨B, 26 + i, none⟩ (.int .i64 m)) B hs ha K st' C sv := by
  refine ⟨(h.row.set (26 + i) (.int .i64 m)).congr (fun o ho => ?_), ownsRow_setCell_other h.own (fun e => by have := (own_in h.own B e).1; omega) _⟩
  unfold wrV
  by_cases e : o = 26 + i
  · subst e; rw [if_pos rfl, if_neg (by omega), if_neg (by omega), if_neg (by omega), hst, if_pos (by omega)]
  · rw [if_neg e]
    split
    · rfl
    split
    · rfl
    split
    · rfl
    rw [hst, if_neg (by omega)]

set_option maxRecDepth 100000 in
set_option maxHeartbeats 8000000 in
theorem writeProg_any (B : Nat) (hs : Nat → Bool) (ha : Nat → Nat) (K : Nat) (sv : Value) (P R V : Nat) (L : List In4) (ao : Option Addr) (cap : Nat) (s : Nat → Bool) (w : World) (h : WrB w B hs ha K (fun _ => 0) [] sv) (hK : 2 ≤ K) (hK' : K ≤ 16) (hp : RightP P R V L)
    (hH : HeldIns w ao L) (hHB : ∀ b off, ao = some ⟨b, off, none⟩ → b < B) :
    Calls Tryd.prog 32 #[.pointer (some ⟨B, 0, none⟩), .agg #[.int .i64 P, .int .i64 R, .int .i64 V, .slice ao L.length cap], .agg (rowA 12 (setV s))] w
      (WPost w B hs ha K (stF hs ha K s P L L.length) (codeB hs ha K s P L) sv (.tuple #[])) := by
  obtain ⟨b, off, rfl, hb, hI⟩ := held_at hH hp.n1
  have hbB := hHB b off rfl
  have hn1 := hp.n1
  have hn40 := hp.n40
  have hP4 : P ≤ 4 := by have := hp.p4; omega
  have KL := hide (fun w sv (h : WrB w B hs ha K (fun _ => 0) [] sv) => loadParams_any B hs ha K (fun _ => 0) [] sv P s w h (by omega) (by simp))
  have KI := hide (fun w st C sv (h : WrB w B hs ha K st C sv) i (hi : i < L.length) hl => writeI_any B hs ha K st C sv (inAt L i) R L.length V w h hK hK' (hp.ins i hi) hp.r12 (hp.low i hi) hl)
  have KT := hide (fun w st sv (h : WrB w B hs ha K st (wTo hs ha K s P L L.length) sv) => setTargets_any B hs ha K st (wTo hs ha K s P L L.length) sv w h (wTo_pos hs ha K s P hn1 hp.last) (by have := wTo_len hs ha K s P L L.length; omega) (fun i hi => wTo_tg hs ha K s P hn40 hp.ins L.length (Nat.le_refl _) _ (inAt_mem hi)))
  have HLN := hide (wTo_len hs ha K s P L)
  have HSS := hide (stF_step hs ha K s P L)
  have HI := hide hI
  obtain ⟨w1, hw1, HP1, HC1, HL1⟩ := open_pr w P R V (.slice (some ⟨b, off, none⟩) L.length cap) 12 77 (setV s)
  have HW := hide hw1
  have hBw := h.lt
  have HB1 : Hid (WrB w1 B hs ha K (fun _ => 0) [] sv) := h.below (unhide HL1)
  have HS1 : Hid (WrStep B w sv w1 sv) := .below (unhide HL1)
  have HA1 : Hid (some w.heap.size ≠ sv.ownBlock) := h.apart (Nat.le_refl _)
  have hz1 : w.heap.size < w1.heap.size := (unhide HP1).lt
  have HX : Hid (∀ w', WrStep B w sv w' sv → True) := fun _ _ => trivial
  have HU : Hid (∀ (w' : World) (sv' : Value), WrStep B w sv w' sv' → LieI w' b off L) := fun w' sv' hst => hI.below (hst.under h) hbB
  clear hw1 h hp hI hH hHB HX
  go_enter Tryd.func32, Tryd.ntmps32
  go_upto_region 1 with fail
  rw [← unhide HW]
  have p0 := (unhide HP1).c0
  iterate 60 (first | (refine wpList_load_row rfl 77 _ rfl (w.heap.size + 1) rfl 77 _ (0, 0) _ (unhide HC1) Tryd.underlying77 rfl (by rw [rowA_size]; exact Tryd.size77) ?_; clear HC1) | go_values | go_skip | go_guarded | go_step | skip)
  refine (unhide KL w1 sv (unhide HB1)).mono ?_
  rintro e w2 ⟨rfl, sv2, hw2, hs2⟩
  have HB2 : Hid (WrB w2 B hs ha K (stF hs ha K s P L 0) (wTo hs ha K s P L 0) sv2) := hw2
  have HS2 : Hid (WrStep B w sv w2 sv2) := (unhide HS1).trans hs2
  have HP2 : Hid (ProgB w2 w.heap.size P R V (.slice (some ⟨b, off, none⟩) L.length cap)) := (hs2.block (unhide HP1).lt (by omega) (unhide HA1)).trans (unhide HP1)
  have HA2 : Hid (some w.heap.size ≠ sv2.ownBlock) := hs2.fresh _ hz1 (unhide HA1)
  clear hw2 hs2 HB1 HS1 HP1 HA1 HL1 p0 HW
  go_wp2_with fail
  go_loopw [6] (fun i' wr => ∃ k : Nat, k ≤ L.length ∧ i' = .int .i64 k ∧ ∃ sv', Hid (WrB wr B hs ha K (stF hs ha K s P L k) (wTo hs ha K s P L k) sv') ∧ Hid (WrStep B w sv wr sv') ∧ Hid (ProgB wr w.heap.size P R V (.slice (some ⟨b, off, none⟩) L.length cap)) ∧ Hid (some w.heap.size ≠ sv'.ownBlock)) (fun i' _ => L.length - (intOf i').toNat)
  case atStart => exact ⟨0, by omega, rfl, sv2, unhide HB2, unhide HS2, unhide HP2, unhide HA2⟩
  case round =>
    clear HB2 HS2 HP2 HA2
    obtain ⟨k, hk, rfl, sv', HB, HS, HP, HA⟩ := hrel
    have p3 := (unhide HP).c3
    by_cases hlt : k < L.length
    case neg =>
      have hkL : k = L.length := by omega
      subst hkL
      have KT' := hide (unhide KT wr _ sv' (unhide HB))
      clear HB KT
      go_wp2_with fail
      refine (unhide KT').mono ?_
      rintro e w4 ⟨rfl, sv4, hw4, hs4⟩
      have HQ : Hid (WPost w B hs ha K (stF hs ha K s P L L.length) (codeB hs ha K s P L) sv (.tuple #[]) (.returned (.tuple #[])) w4) := ⟨rfl, sv4, hw4, (unhide HS).trans hs4⟩
      clear hw4 hs4
      go_wp2_with fail
      go_returns
      exact unhide HQ
    have hki : (k : Int) < 40 := by omega
    have hki' : (k : Int) < L.length := by omega
    obtain ⟨ao', cap', rfl⟩ := (unhide HB).shape
    have c25 := (unhide HB).sv
    have hBf : ∀ o, wr.frozen? ⟨B, o, none⟩ = false := (unhide HB).row.free
    obtain ⟨old, hold⟩ : ∃ v, wr.cell? ⟨B, 26 + k, none⟩ = some v := ⟨_, (unhide HB).row.cell (by omega)⟩
    have hln := unhide HLN k
    obtain ⟨m, hm⟩ : ∃ m, m = (wTo hs ha K s P L k).length := ⟨_, rfl⟩
    have HM := hide hm
    rw [← hm] at c25 hln
    have hne : w.heap.size ≠ B := by omega
    have hkc : ∀ (wq : World) (z : Value), (wq.setCell ⟨B, 26 + k, none⟩ z).cell? ⟨B, 25, none⟩ = wq.cell? ⟨B, 25, none⟩ := fun wq z => World.cell?_setCell_other _ _ _ _ (fun e => by injection e with e1 e2; omega)
    clear hm
    go_upto_region 5 with fail
    go_region_held3 (fun w' => w'.cell? ⟨B, 25, none⟩ = some (.slice ao' m cap')) (first | (simp [*]; done) | assumption) (fail)
    obtain ⟨w4, hw4⟩ : ∃ w4, w4 = (wr.setCell ⟨B, 26 + k, none⟩ (.int .i64 (m : Int))).drew := ⟨_, rfl⟩
    rw [← hw4]
    obtain ⟨sv4, hsv4⟩ : ∃ v, v = Value.slice ao' (wTo hs ha K s P L k).length cap' := ⟨_, rfl⟩
    rw [← hsv4] at HB HS HA
    have HB4 : Hid (WrB w4 B hs ha K (stF hs ha K s P L (k + 1)) (wTo hs ha K s P L k) sv4) := by
      rw [hw4]; exact ((unhide HB).set_start (fun j => by rw [unhide HSS k j, unhide HM])).drew
    have hst4 : WrStep B wr sv4 w4 sv4 := by
      rw [hw4]; exact ⟨((Keep.refl (fun k => k = B ∨ some k = sv4.ownBlock) wr).setCell (p := ⟨B, 26 + k, none⟩) (.inl rfl) _).drew, fun _ _ h => h⟩
    have HS4 : Hid (WrStep B w sv w4 sv4) := (unhide HS).trans hst4
    have HP4 : Hid (ProgB w4 w.heap.size P R V (.slice (some ⟨b, off, none⟩) L.length cap)) := (hst4.block (unhide HP).lt hne (unhide HA)).trans (unhide HP)
    have hq4 := unhide HU w4 sv4 (unhide HS4) k hlt
    obtain ⟨q0, q1, q2, q3⟩ := hq4
    have p3' := (unhide HP4).c3
    have KI' := hide (unhide KI w4 _ _ sv4 (unhide HB4) k hlt (by rw [← unhide HM]; omega))
    clear hw4 hst4 hsv4 HB HS HP c25 hBf hold p3 hkc
    go_wp2_with fail
    refine (unhide KI').mono ?_
    rintro e w5 ⟨rfl, sv5, hw5, hs5⟩
    have HB5 : Hid (WrB w5 B hs ha K (stF hs ha K s P L (k + 1)) (wTo hs ha K s P L (k + 1)) sv5) := hw5
    have HS5 : Hid (WrStep B w sv w5 sv5) := (unhide HS4).trans hs5
    have HP5 : Hid (ProgB w5 w.heap.size P R V (.slice (some ⟨b, off, none⟩) L.length cap)) := (hs5.block (unhide HP4).lt hne (unhide HA)).trans (unhide HP4)
    have HA5 : Hid (some w.heap.size ≠ sv5.ownBlock) := hs5.fresh _ (unhide HP4).lt (unhide HA)
    clear hw5 hs5 q0 q1 q2 q3 p3' KI' HB4 HS4 HP4 HA
    go_wp2_with fail
    go_roundw
    case rel => exact ⟨k + 1, by omega, by go_num, sv5, unhide HB5, unhide HS5, unhide HP5, unhide HA5⟩
    case measure => simp [intOf]; omega
end Go.Proofs.YtoepcplbpochpabDoor

/-
  What a right program keeps to along its ways.
-/
namespace Go.Proofs.YtoepcplbpochpabDoor
open Go.RowKit

theorem right_inside {P R V : Int} {L : List In4} (hp : RightP P R V L) : Inside L := fun i hi => by
  have hx := hp.ins i hi
  have hl := hp.last
  have hne : (inAt L i).op ≠ 7 → (inAt L i).op ≠ 10 → i + 1 < L.length := fun h7 h10 => by
    rcases Nat.lt_or_ge (i + 1) L.length with h | h
    · exact h
    · have e : L.length - 1 = i := by omega
      rw [e] at hl
      exact (hl.elim h7 h10).elim
  obtain ⟨_, _, _, _, _, _, rJ, rI, _⟩ := hx
  unfold nx1 nx2
  by_cases h7 : (inAt L i).op = 7
  · rw [if_pos h7, if_neg (by omega)]; exact ⟨.inr (rJ h7), .inl rfl⟩
  rw [if_neg h7]
  by_cases h8 : (inAt L i).op = 8
  · rw [if_pos h8, if_pos h8]; have := hne (by omega) (by omega); exact ⟨.inr (rI h8), .inr (by omega)⟩
  rw [if_neg h8, if_neg h8]
  by_cases h10 : (inAt L i).op = 10
  · rw [if_pos h10]; exact ⟨.inl rfl, .inl rfl⟩
  · rw [if_neg h10]; have := hne h7 h10; exact ⟨.inr (by omega), .inl rfl⟩
theorem right_wr {P R V : Int} {L : List In4} (hp : RightP P R V L) : ∀ i, i < L.length → isWr (inAt L i).op = true → 0 ≤ (inAt L i).d ∧ (inAt L i).d < R ∧ i + 1 < L.length := fun i hi hw => by
  have hx := hp.ins i hi
  have hl := hp.last
  have ho : (inAt L i).op = 0 ∨ (inAt L i).op = 1 ∨ (2 ≤ (inAt L i).op ∧ (inAt L i).op ≤ 6) := by
    unfold isWr isRk at hw
    rw [Bool.or_eq_true, Bool.or_eq_true, Bool.and_eq_true, beq_iff_eq, beq_iff_eq, decide_eq_true_iff, decide_eq_true_iff] at hw
    omega
  have hd := hx.2.2.1 ho
  refine ⟨hd.1, hd.2, ?_⟩
  rcases Nat.lt_or_ge (i + 1) L.length with h | h
  · exact h
  · have e : L.length - 1 = i := by omega
    rw [e] at hl
    omega
/-- A variable is bound to registers that there are. -/
theorem fact_reg {P R V : Int} {L : List In4} (hp : RightP P R V L) (i v : Nat) : (factB L i v).k = 3 → 0 ≤ (factB L i v).a ∧ (factB L i v).a < R := by
  unfold factB
  rw [factM_pass]
  refine Chaos.iter_inv (n := L.length) (f := sprF L v) (I := fun h => ∀ j, (h j).k = 3 → 0 ≤ (h j).a ∧ (h j).a < R) (fun k hk g hg => ?_) (List.range L.length) (fun i hi => List.mem_range.1 hi) _ startF (fun j h => ?_) i
  · have hx := hp.ins k hk
    have hb : ∀ f : Ft, (f.k = 3 → 0 ≤ f.a ∧ f.a < R) → (behF (inAt L k) v f).k = 3 → 0 ≤ (behF (inAt L k) v f).a ∧ (behF (inAt L k) v f).a < R := fun f hf => by
      unfold behF
      split
      · exact hf
      split
      · intro h; cases h
      split
      · split
        · rename_i h12
          intro _
          exact hx.2.2.2.1 (.inr (.inr (.inr (.inr (.inr h12)))))
        · split
          · intro h; cases h
          · intro h; cases h
      · exact hf
    have hm : ∀ f g : Ft, (f.k = 3 → 0 ≤ f.a ∧ f.a < R) → (g.k = 3 → 0 ≤ g.a ∧ g.a < R) → (metF f g).k = 3 → 0 ≤ (metF f g).a ∧ (metF f g).a < R := fun f g hf hg => by
      unfold metF
      split
      · exact hg
      split
      · exact hf
      · intro h; cases h
    have step : ∀ (p : Int) (f : Ft) (h : Nat → Ft), (f.k = 3 → 0 ≤ f.a ∧ f.a < R) → (∀ j, (h j).k = 3 → 0 ≤ (h j).a ∧ (h j).a < R) → ∀ j, (bring p f h j).k = 3 → 0 ≤ (bring p f h j).a ∧ (bring p f h j).a < R := fun p f h hf hh j => by
      unfold bring
      split
      · exact hh j
      · show (if j = p.toNat then metF (h j) f else h j).k = 3 → 0 ≤ (if j = p.toNat then metF (h j) f else h j).a ∧ (if j = p.toNat then metF (h j) f else h j).a < R
        split
        · exact hm _ _ (hh j) hf
        · exact hh j
    exact step _ _ _ (hb _ (hg k)) (step _ _ _ (hb _ (hg k)) hg)
  · unfold startF at h
    split at h <;> cases h
end Go.Proofs.YtoepcplbpochpabDoor

/-
  What code.rangeOf, code.isOp and code.insError answer: the error of an instruction, as the document's own check tells it.
-/
namespace Go.Proofs.YtoepcplbpochpabDoor
open Go.RowKit

/-- The table of the kinds of fields, as the program's text lays it. -/
def kindL : List (List Int) := [[1, 2, 0], [1, 1, 0], [1, 1, 1], [1, 1, 1], [1, 1, 1], [1, 1, 1], [1, 1, 1], [0, 3, 0], [0, 1, 3], [0, 1, 0], [0, 1, 0], [0, 4, 0], [5, 1, 0], [5, 2, 0], [5, 0, 0], [1, 6, 0], [6, 1, 0]]
def kindAt (o j : Nat) : Int := (kindL.getD o []).getD j 0
/-- The table lies in the program's memory. -/
def Tab (w : World) : Prop := ∀ o j, o < 17 → j < 3 → w.cell? ⟨0, o * 3 + j, none⟩ = some (.int .i64 (kindAt o j))
theorem Tab.below {w w' : World} {B : Nat} (h : Tab w) (hb : Below B w w') (hB : 0 < B) : Tab w' := fun o j ho hj => (hb.cell (p := ⟨0, o * 3 + j, none⟩) hB).trans (h o j ho hj)

/-- A kind's letter. -/
def letK (k : Int) : Int := if k = 1 then 114 else if k = 2 then 99 else if k = 3 then 116 else if k = 4 then 115 else if k = 5 then 118 else if k = 6 then 102 else 45
theorem letter_kind (o : Nat) (ho : o < 17) : letterAt o 0 = letK (kindAt o 0) ∧ letterAt o 1 = letK (kindAt o 1) ∧ letterAt o 2 = letK (kindAt o 2) ∧ (∀ j, j < 3 → 0 ≤ kindAt o j ∧ kindAt o j ≤ 6) := by
  rcases (show o = 0 ∨ o = 1 ∨ o = 2 ∨ o = 3 ∨ o = 4 ∨ o = 5 ∨ o = 6 ∨ o = 7 ∨ o = 8 ∨ o = 9 ∨ o = 10 ∨ o = 11 ∨ o = 12 ∨ o = 13 ∨ o = 14 ∨ o = 15 ∨ o = 16 by omega) with rfl | rfl | rfl | rfl | rfl | rfl | rfl | rfl | rfl | rfl | rfl | rfl | rfl | rfl | rfl | rfl | rfl
  all_goals exact ⟨by decide, by decide, by decide, fun j hj => by rcases (show j = 0 ∨ j = 1 ∨ j = 2 by omega) with rfl | rfl | rfl <;> exact ⟨by decide, by decide⟩⟩

def cntK (k r c v s : Int) : Int := if k = 1 then r else if k = 2 then 65536 else if k = 3 then c else if k = 4 then 100 else if k = 5 then v else s
def errK (k : Int) : Int := if k = 1 then 3 else if k = 2 then 4 else if k = 3 then 5 else if k = 4 then 6 else if k = 5 then 7 else 8
theorem fieldE_zero (n r c v s : Int) : fieldE (letK 0) n r c v s = 0 := by simp [fieldE, letK]
theorem fieldE_kind (k n r c v s : Int) (h1 : 1 ≤ k) (h6 : k ≤ 6) : fieldE (letK k) n r c v s = if n < 0 ∨ cntK k r c v s ≤ n then errK k else 0 := by
  rcases (show k = 1 ∨ k = 2 ∨ k = 3 ∨ k = 4 ∨ k = 5 ∨ k = 6 by omega) with rfl | rfl | rfl | rfl | rfl | rfl
  all_goals (simp [fieldE, letK, cntK, errK]; try omega)
  all_goals (split <;> split <;> first | rfl | (exfalso; omega))

set_option maxRecDepth 100000 in
set_option maxHeartbeats 1000000 in
theorem rangeOf_any (u : Bool) (k r c v s : Int) (w : World) (h1 : 1 ≤ k) (h6 : k ≤ 6) :
    Calls Tryd.prog 82 #[.int .i64 k, .agg #[.bool u, .int .i64 r, .int .i64 s, .int .i64 v], .int .i64 c] w fun e w' =>
      e = .returned (.tuple #[.int .i64 (cntK k r c v s), .int .i64 (errK k)]) ∧ Below w.heap.size w w' := by
  rcases (show k = 1 ∨ k = 2 ∨ k = 3 ∨ k = 4 ∨ k = 5 ∨ k = 6 by omega) with rfl | rfl | rfl | rfl | rfl | rfl
  all_goals
    clear h1 h6
    go_enter Tryd.func82, Tryd.ntmps82
    go_wp2
    go_ret2
    exact ⟨rfl, (Below.refl _ _).alloc (Nat.le_refl _) _⟩

/-- Is it an Op of a program (p), or of a unit? -/
def okOp (p : Bool) (op : Int) : Bool := decide (0 ≤ op ∧ op < 17) && opB p op.toNat
theorem okOp_true {p : Bool} {op : Int} (h : okOp p op = true) : 0 ≤ op ∧ op < 17 ∧ opB p op.toNat = true := by
  unfold okOp at h
  rw [Bool.and_eq_true, decide_eq_true_iff] at h
  exact ⟨h.1.1, h.1.2, h.2⟩
theorem okOp_false {p : Bool} {op : Int} (h : okOp p op = false) : ¬ (0 ≤ op ∧ op < 17 ∧ opB p op.toNat = true) := by
  rintro ⟨h1, h2, h3⟩
  unfold okOp at h
  rw [h3, Bool.and_true, decide_eq_false_iff_not] at h
  exact h ⟨h1, h2⟩

set_option maxRecDepth 100000 in
set_option maxHeartbeats 2000000 in
theorem isOp_any (op : Int) (u : Bool) (w : World) : Calls Tryd.prog 81 #[.int .i64 op, .bool u] w fun e w' => e = .returned (.bool (okOp (!u) op)) ∧ w' = w := by
  obtain ⟨b, hb⟩ : ∃ b, okOp (!u) op = b := ⟨_, rfl⟩
  rw [hb]
  rcases (show op < 0 ∨ (0 ≤ op ∧ op ≤ 11) ∨ op = 12 ∨ op = 13 ∨ op = 14 ∨ op = 15 ∨ op = 16 ∨ (0 ≤ op ∧ 11 < op ∧ 16 < op) by omega) with h | ⟨h, h'⟩ | rfl | rfl | rfl | rfl | rfl | ⟨h, h', h''⟩
  · obtain rfl : b = false := by rw [← hb]; unfold okOp; rw [decide_eq_false (by omega)]; rfl
    have n12 : (op == 12) = false := by rw [beq_eq_false_iff_ne]; omega
    have n13 : (op == 13) = false := by rw [beq_eq_false_iff_ne]; omega
    have n14 : (op == 14) = false := by rw [beq_eq_false_iff_ne]; omega
    have n15 : (op == 15) = false := by rw [beq_eq_false_iff_ne]; omega
    have n16 : (op == 16) = false := by rw [beq_eq_false_iff_ne]; omega
    clear hb
    cases u
    all_goals
      go_enter Tryd.func81, Tryd.ntmps81
      go_wp2
      go_ret
      exact ⟨rfl, rfl⟩
  · obtain rfl : b = true := by rw [← hb]; unfold okOp opB; rw [decide_eq_true (by omega), decide_eq_true (show op.toNat < 12 by omega)]; rfl
    clear hb
    go_enter Tryd.func81, Tryd.ntmps81
    go_wp2
    go_ret
    exact ⟨rfl, rfl⟩
  case inr.inr.inr.inr.inr.inr.inr =>
    obtain rfl : b = false := by rw [← hb]; unfold okOp; rw [decide_eq_false (by omega)]; rfl
    have n12 : (op == 12) = false := by rw [beq_eq_false_iff_ne]; omega
    have n13 : (op == 13) = false := by rw [beq_eq_false_iff_ne]; omega
    have n14 : (op == 14) = false := by rw [beq_eq_false_iff_ne]; omega
    have n15 : (op == 15) = false := by rw [beq_eq_false_iff_ne]; omega
    have n16 : (op == 16) = false := by rw [beq_eq_false_iff_ne]; omega
    clear hb
    cases u
    all_goals
      go_enter Tryd.func81, Tryd.ntmps81
      go_wp2
      go_ret
      exact ⟨rfl, rfl⟩
  all_goals
    cases u
    all_goals
      go_enter Tryd.func81, Tryd.ntmps81
      go_wp2
      go_ret
      exact ⟨ret_bool hb, rfl⟩

/-- The j-th field. -/
def fldAt (x : In4) (j : Nat) : Int := if j = 0 then x.d else if j = 1 then x.a else x.b
/-- The error of the fields from the j-th on. -/
def fieldsFrom (x : In4) (o : Nat) (r c v s : Int) (j : Nat) : Nat → Int
  | 0 => 0
  | m + 1 => if fieldE (letK (kindAt o j)) (fldAt x j) r c v s ≠ 0 then fieldE (letK (kindAt o j)) (fldAt x j) r c v s else fieldsFrom x o r c v s (j + 1) m
theorem fields_insE (p : Bool) (x : In4) (o : Nat) (r c v s : Int) (hx : x.op = (o : Int)) (ho : o < 17) (hp : opB p o = true) : insE p x r c v s = fieldsFrom x o r c v s 0 3 := by
  obtain ⟨l0, l1, l2, _⟩ := letter_kind o ho
  rw [insE_good hx ho hp, l0, l1, l2]
  have key : ∀ a b c : Int, (if a ≠ 0 then a else if b ≠ 0 then b else c) = if a ≠ 0 then a else if b ≠ 0 then b else if c ≠ 0 then c else 0 := fun a b c => by
    by_cases hc : c = 0
    · rw [if_neg (c := c ≠ 0) (fun h => h hc), hc]
    · rw [if_pos (c := c ≠ 0) hc]
  exact key (fieldE (letK (kindAt o 0)) x.d r c v s) (fieldE (letK (kindAt o 1)) x.a r c v s) (fieldE (letK (kindAt o 2)) x.b r c v s)

theorem fields_on {x : In4} {o : Nat} {r c v s : Int} {j : Nat} (hj : j < 3) (h : fieldE (letK (kindAt o j)) (fldAt x j) r c v s = 0) : fieldsFrom x o r c v s j (3 - j) = fieldsFrom x o r c v s (j + 1) (3 - (j + 1)) := by
  obtain ⟨m, hm⟩ : ∃ m, 3 - j = m + 1 := ⟨3 - j - 1, by omega⟩
  rw [hm, show 3 - (j + 1) = m by omega]
  show (if _ then _ else _) = _
  rw [if_neg (fun k => k h)]
theorem fields_here {x : In4} {o : Nat} {r c v s : Int} {j : Nat} (hj : j < 3) (h : fieldE (letK (kindAt o j)) (fldAt x j) r c v s ≠ 0) : fieldsFrom x o r c v s j (3 - j) = fieldE (letK (kindAt o j)) (fldAt x j) r c v s := by
  obtain ⟨m, hm⟩ : ∃ m, 3 - j = m + 1 := ⟨3 - j - 1, by omega⟩
  rw [hm]
  show (if _ then _ else _) = _
  rw [if_pos h]

theorem fldA_cell {w : World} {g : Nat} {x : In4} (h : w.heap[g]? = some (.cells #[.int .i64 x.d, .int .i64 x.a, .int .i64 x.b] 156 (0, 0))) (j : Nat) (hj : j < 3) : w.cell? ⟨g, j, none⟩ = some (.int .i64 (fldAt x j)) := by
  rw [cell_of_row w g j _ 156 (0, 0) h]
  rcases (show j = 0 ∨ j = 1 ∨ j = 2 by omega) with rfl | rfl | rfl <;> rfl

set_option maxRecDepth 100000 in
set_option maxHeartbeats 2000000 in
theorem insError_any (u : Bool) (x : In4) (r c v s : Int) (w : World) (hT : Tab w) (hw0 : 0 < w.heap.size) :
    Calls Tryd.prog 62 #[.agg #[.int .i64 x.op, .int .i64 x.d, .int .i64 x.a, .int .i64 x.b], .agg #[.bool u, .int .i64 r, .int .i64 s, .int .i64 v], .int .i64 c] w fun e w' =>
      e = .returned (.int .i64 (insE (!u) x r c v s)) ∧ Below w.heap.size w w' := by
  have KO := hide (fun w => isOp_any x.op u w)
  cases hok : okOp (!u) x.op with
  | false =>
    rw [hok] at KO
    have he := hide (show insE (!u) x r c v s = 2 by unfold insE; rw [if_pos (okOp_false hok)])
    clear hok hT
    go_enter Tryd.func62, Tryd.ntmps62
    go_wp2_with (go_at_call 81; refine (unhide KO _).mono ?_; rintro e w2 ⟨rfl, hw⟩; rw [hw]; clear hw)
    go_ret
    exact ⟨ret_int (unhide he).symm, ((Below.refl _ _).alloc (Nat.le_refl _) _).alloc (by simp) _⟩
  | true =>
  rw [hok] at KO
  obtain ⟨g0, g1, g2⟩ := okOp_true hok
  obtain ⟨o, hx⟩ : ∃ o : Nat, x.op = (o : Int) := ⟨x.op.toNat, by omega⟩
  have ho : o < 17 := by omega
  have HIE := hide (fields_insE (!u) x o r c v s hx ho (by rw [hx, Int.toNat_natCast] at g2; exact g2))
  have HT := hide hT
  rw [hx] at KO ⊢
  rw [unhide HIE]
  clear hok g0 g1 g2 HIE
  have HK := hide (letter_kind o ho).2.2.2
  have o1 : (o : Int) < 17 := by omega
  have o0 : (0 : Int) ≤ (o : Int) := by omega
  clear hT hx
  go_enter Tryd.func62, Tryd.ntmps62
  go_wp2_with (go_at_call 81; refine (unhide KO _).mono ?_; rintro e w2 ⟨rfl, hw⟩; rw [hw]; clear hw)
  obtain ⟨w1, hw1⟩ : ∃ w1, w1 = ((w.alloc (.cells #[.int .i64 (o : Int), .int .i64 x.d, .int .i64 x.a, .int .i64 x.b] 31)).alloc (.cells #[.bool u, .int .i64 r, .int .i64 s, .int .i64 v] 101)).alloc (.cells #[.int .i64 x.d, .int .i64 x.a, .int .i64 x.b] 156) := ⟨_, rfl⟩
  rw [← hw1]
  have HB1 : Hid (Below w.heap.size w w1) := by rw [hw1]; exact (((Below.refl _ _).alloc (Nat.le_refl _) _).alloc (by simp) _).alloc (by simp; omega) _
  have hz1 : w1.heap.size = w.heap.size + 3 := by rw [hw1]; simp
  have p0 : w1.cell? ⟨w.heap.size, 0, none⟩ = some (.int .i64 (o : Int)) := by
    rw [hw1, World.cell?_alloc_past (hn := by simp; omega), World.cell?_alloc_past (hn := by simp), World.cell?_alloc_at (hn := rfl)]; rfl
  have pl : ∀ i, w1.cell? ⟨w.heap.size + 1, i, none⟩ = #[Value.bool u, .int .i64 r, .int .i64 s, .int .i64 v][i]? := fun i => by
    rw [hw1, World.cell?_alloc_past (hn := by simp), World.cell?_alloc_at (hn := by simp)]
  have HF : Hid (w1.heap[w.heap.size + 1 + 1]? = some (.cells #[.int .i64 x.d, .int .i64 x.a, .int .i64 x.b] 156 (0, 0))) := by
    have hh := heap_alloc_new ((w.alloc (.cells #[.int .i64 (o : Int), .int .i64 x.d, .int .i64 x.a, .int .i64 x.b] 31)).alloc (.cells #[.bool u, .int .i64 r, .int .i64 s, .int .i64 v] 101)) (.cells #[.int .i64 x.d, .int .i64 x.a, .int .i64 x.b] 156)
    rw [show ((w.alloc (.cells #[.int .i64 (o : Int), .int .i64 x.d, .int .i64 x.a, .int .i64 x.b] 31)).alloc (.cells #[.bool u, .int .i64 r, .int .i64 s, .int .i64 v] 101)).heap.size = w.heap.size + 1 + 1 by simp] at hh
    rw [hw1]; exact hh
  have l0 : w1.cell? ⟨w.heap.size + 1, 0, none⟩ = some (.bool u) := (pl 0).trans rfl
  have l1 : w1.cell? ⟨w.heap.size + 1, 1, none⟩ = some (.int .i64 r) := (pl 1).trans rfl
  have l2 : w1.cell? ⟨w.heap.size + 1, 2, none⟩ = some (.int .i64 s) := (pl 2).trans rfl
  have l3 : w1.cell? ⟨w.heap.size + 1, 3, none⟩ = some (.int .i64 v) := (pl 3).trans rfl
  have HT1 := hide ((unhide HT).below (unhide HB1) hw0)
  clear hw1 pl HT
  go_loopw [8] (fun i wr => ∃ k : Nat, k ≤ 3 ∧ i = .int .i64 k ∧ Hid (fieldsFrom x o r c v s 0 3 = fieldsFrom x o r c v s k (3 - k)) ∧ Below w1.heap.size w1 wr) (fun i _ => 3 - (intOf i).toNat)
  case atStart => exact ⟨0, Nat.zero_le _, rfl, rfl, Below.refl _ _⟩
  case round =>
    obtain ⟨k, hk, rfl, HC, hbel⟩ := hrel
    have hB := hbel.size
    by_cases hlt : k < 3
    case neg =>
      obtain rfl : k = 3 := by omega
      have he := hide (show fieldsFrom x o r c v s 0 3 = 0 by rw [unhide HC]; rfl)
      go_wp2
      go_ret
      exact ⟨ret_int (unhide he).symm, (unhide HB1).trans (hbel.mono (by omega))⟩
    have k3 : (k : Int) < 3 := by omega
    have k0 : (0 : Int) ≤ (k : Int) := by omega
    have r0 := (hbel.cell (p := ⟨w.heap.size, 0, none⟩) (show w.heap.size < w1.heap.size by omega)).trans p0
    have m0 := (hbel.cell (p := ⟨w.heap.size + 1, 0, none⟩) (show w.heap.size + 1 < w1.heap.size by omega)).trans l0
    have m1 := (hbel.cell (p := ⟨w.heap.size + 1, 1, none⟩) (show w.heap.size + 1 < w1.heap.size by omega)).trans l1
    have m2 := (hbel.cell (p := ⟨w.heap.size + 1, 2, none⟩) (show w.heap.size + 1 < w1.heap.size by omega)).trans l2
    have m3 := (hbel.cell (p := ⟨w.heap.size + 1, 3, none⟩) (show w.heap.size + 1 < w1.heap.size by omega)).trans l3
    obtain ⟨f, hf⟩ : ∃ f, f = fldAt x k := ⟨_, rfl⟩
    obtain ⟨q, hq⟩ : ∃ q, q = kindAt o k := ⟨_, rfl⟩
    have rf := (hbel.cell (p := ⟨w.heap.size + 1 + 1, k, none⟩) (show w.heap.size + 1 + 1 < w1.heap.size by omega)).trans (fldA_cell (unhide HF) k hlt)
    have rk := (hbel.cell (p := ⟨0, o * 3 + k, none⟩) (show 0 < w1.heap.size by omega)).trans (unhide HT1 o k ho hlt)
    rw [← hf] at rf
    rw [← hq] at rk
    have hq0 := (unhide HK k hlt).1
    have hq6 := (unhide HK k hlt).2
    rw [← hq] at hq0 hq6
    have HQ := hide hq
    have HFF := hide hf
    clear hq hf
    by_cases hz : q = 0
    · subst hz
      have hn := hide (show fieldsFrom x o r c v s 0 3 = fieldsFrom x o r c v s (k + 1) (3 - (k + 1)) by
        rw [unhide HC]; exact fields_on hlt (by rw [← unhide HQ]; exact fieldE_zero _ _ _ _ _))
      go_wp2
      go_roundw
      case rel => exact ⟨k + 1, by omega, by go_num, unhide hn, hbel⟩
      case measure => simp [intOf]; omega
    · have hz1' : (q == 0) = false := by rw [beq_eq_false_iff_ne]; exact hz
      have hq1 : 1 ≤ q := by omega
      have hF := fieldE_kind q f r c v s hq1 hq6
      have KR := hide (fun w => rangeOf_any u q r c v s w hq1 hq6)
      have HFE := hide hF
      obtain ⟨cn, hcn⟩ : ∃ cn, cn = cntK q r c v s := ⟨_, rfl⟩
      obtain ⟨er, her⟩ : ∃ er, er = errK q := ⟨_, rfl⟩
      have e3 : 3 ≤ er := by rw [her]; unfold errK; split <;> (try split) <;> (try split) <;> (try split) <;> (try split) <;> omega
      rw [← hcn, ← her] at KR HFE
      clear hF hcn her hz
      rcases (show f < 0 ∨ (0 ≤ f ∧ cn ≤ f) ∨ (0 ≤ f ∧ f < cn) by omega) with h | ⟨h, h'⟩ | ⟨h, h'⟩
      case inr.inr =>
        have hn := hide (show fieldsFrom x o r c v s 0 3 = fieldsFrom x o r c v s (k + 1) (3 - (k + 1)) by
          rw [unhide HC]; exact fields_on hlt (by rw [← unhide HQ, ← unhide HFF, unhide HFE, if_neg (by omega)]))
        go_wp2_with fail
        refine (unhide KR wr).mono ?_
        rintro e w2 ⟨rfl, hb2⟩
        have sf := (hb2.cell (p := ⟨w.heap.size + 1 + 1, k, none⟩) (show w.heap.size + 1 + 1 < wr.heap.size by omega)).trans rf
        have HB2 := hide (hbel.trans (hb2.mono hB))
        clear hb2
        go_wp2
        go_roundw
        case rel => exact ⟨k + 1, by omega, by go_num, unhide hn, unhide HB2⟩
        case measure => simp [intOf]; omega
      all_goals
        have hn := hide (show fieldsFrom x o r c v s 0 3 = er by
          have e1 : fieldE (letK (kindAt o k)) (fldAt x k) r c v s = er := by rw [← unhide HQ, ← unhide HFF, unhide HFE, if_pos (by omega)]
          rw [unhide HC, fields_here hlt (by rw [e1]; omega), e1])
        go_wp2_with fail
        refine (unhide KR wr).mono ?_
        rintro e w2 ⟨rfl, hb2⟩
        have sf := (hb2.cell (p := ⟨w.heap.size + 1 + 1, k, none⟩) (show w.heap.size + 1 + 1 < wr.heap.size by omega)).trans rf
        have HB2 := hide (hbel.trans (hb2.mono hB))
        clear hb2
        go_wp2
        go_ret
        exact ⟨ret_int (unhide hn).symm, (unhide HB1).trans ((unhide HB2).mono (by omega))⟩
end Go.Proofs.YtoepcplbpochpabDoor

/-
  What code.Check answers of a list of instructions: the first error, and its place.
-/
namespace Go.Proofs.YtoepcplbpochpabDoor
open Go.RowKit

set_option maxRecDepth 100000 in
set_option maxHeartbeats 2000000 in
theorem codeCheck_any (u : Bool) (r v s : Int) (L : List In4) (ao : Option Addr) (cap : Nat) (w : World) (hH : HeldIns w ao L) (h1 : 1 ≤ L.length) (hn : L.length ≤ 9223372036854775807) (hT : Tab w) (hw0 : 0 < w.heap.size) :
    Calls Tryd.prog 40 #[.slice ao L.length cap, .agg #[.bool u, .int .i64 r, .int .i64 s, .int .i64 v]] w fun e w' =>
      e = .returned (.tuple #[.int .i64 (codedE (!u) L r v s).1, .int .i64 (codedE (!u) L r v s).2]) ∧ Below w.heap.size w w' := by
  obtain ⟨b, off, rfl, hb, hL⟩ : ∃ b off, ao = some ⟨b, off, none⟩ ∧ b < w.heap.size ∧ LieI w b off L := by
    rcases hH with h | h
    · subst h; exact absurd h1 (by simp)
    · exact h
  have HL := hide hL
  have HT := hide hT
  clear hL hT hH
  obtain ⟨p, hp⟩ : ∃ p, (!u) = p := ⟨_, rfl⟩
  have KI := hide (fun (x : In4) w (hT : Tab w) (hw0 : 0 < w.heap.size) => insError_any u x r (L.length : Int) v s w hT hw0)
  rw [hp] at KI ⊢
  clear hp
  have hne : ((L.length : Int) == 0) = false := by rw [beq_eq_false_iff_ne]; omega
  go_enter Tryd.func40, Tryd.ntmps40
  go_wp2_with fail
  obtain ⟨w3, hw3⟩ : ∃ w3, w3 = w.alloc (.cells #[.bool u, .int .i64 r, .int .i64 s, .int .i64 v] 101) := ⟨_, rfl⟩
  rw [← hw3]
  have l0 : w3.cell? ⟨w.heap.size, 0, none⟩ = some (.bool u) := by rw [hw3, World.cell?_alloc_at (hn := rfl)]; rfl
  have l1 : w3.cell? ⟨w.heap.size, 1, none⟩ = some (.int .i64 r) := by rw [hw3, World.cell?_alloc_at (hn := rfl)]; rfl
  have l2 : w3.cell? ⟨w.heap.size, 2, none⟩ = some (.int .i64 s) := by rw [hw3, World.cell?_alloc_at (hn := rfl)]; rfl
  have l3 : w3.cell? ⟨w.heap.size, 3, none⟩ = some (.int .i64 v) := by rw [hw3, World.cell?_alloc_at (hn := rfl)]; rfl
  have HB3 : Hid (Below w.heap.size w w3) := by rw [hw3]; exact (Below.refl _ _).alloc (Nat.le_refl _) _
  have hz3 : w.heap.size < w3.heap.size := by rw [hw3]; simp
  clear hw3
  go_loopw [6] (fun i wr => ∃ k : Nat, k ≤ L.length ∧ i = .int .i64 k ∧ Hid (codedE p L r v s = codedFrom p L r v s k (L.length - k)) ∧ Below w3.heap.size w3 wr) (fun i _ => L.length - (intOf i).toNat)
  case atStart => exact ⟨0, Nat.zero_le _, rfl, rfl, Below.refl _ _⟩
  case round =>
    obtain ⟨k, hk, rfl, HC, hbel⟩ := hrel
    have hB := hbel.size
    have HBr : Hid (Below w.heap.size w wr) := (unhide HB3).trans (hbel.mono (by omega))
    by_cases hlt : k < L.length
    case neg =>
      obtain rfl : k = L.length := by omega
      obtain ⟨x, hx⟩ : ∃ x, x = inAt L (L.length - 1) := ⟨_, rfl⟩
      have hA := (unhide HL (L.length - 1) (by omega)).below (unhide HBr) hb
      rw [← hx] at hA
      have c0 : wr.cell? ⟨b, off + (L.length - 1) * 4, none⟩ = some (.int .i64 x.op) := hA.1
      obtain ⟨n, hnn⟩ : ∃ n, L.length = n + 1 := ⟨L.length - 1, by omega⟩
      have he2 := hide (show codedE p L r v s = if x.op ≠ 7 ∧ x.op ≠ 10 then (9, (L.length : Int) - 1) else (0, 0) by
        rw [unhide HC, Nat.sub_self, hx]; rfl)
      rw [show L.length - 1 = n by omega] at c0
      rw [hnn] at he2 hn hlt ⊢
      clear hA hx hnn HC l0 l1 l2 l3 hne
      by_cases h7 : x.op = 7
      · have he' := hide (show codedE p L r v s = (0, 0) by rw [unhide he2, if_neg (fun h => h.1 h7)])
        rw [h7] at c0
        clear h7 he2
        go_wp2
        go_ret2
        exact ⟨ret2 (by rw [unhide he']) (by rw [unhide he']), unhide HBr⟩
      by_cases h10 : x.op = 10
      · have he' := hide (show codedE p L r v s = (0, 0) by rw [unhide he2, if_neg (fun h => h.2 h10)])
        rw [h10] at c0
        clear h7 h10 he2
        go_wp2
        go_ret2
        exact ⟨ret2 (by rw [unhide he']) (by rw [unhide he']), unhide HBr⟩
      · have he' := hide (show codedE p L r v s = (9, (n : Int)) by rw [unhide he2, if_pos ⟨h7, h10⟩]; congr 1; omega)
        have h7' : (x.op != 7) = true := by rw [bne_iff_ne]; exact h7
        have h10' : (x.op != 10) = true := by rw [bne_iff_ne]; exact h10
        clear he2
        go_wp2
        go_ret2
        exact ⟨ret2 (by rw [unhide he']) (by rw [unhide he']), unhide HBr⟩
    obtain ⟨x, hx⟩ : ∃ x, x = inAt L k := ⟨_, rfl⟩
    have hA := (unhide HL k hlt).below (unhide HBr) hb
    rw [← hx] at hA
    obtain ⟨c0, c1, c2, c3⟩ := hA
    have m0 := (hbel.cell (p := ⟨w.heap.size, 0, none⟩) hz3).trans l0
    have m1 := (hbel.cell (p := ⟨w.heap.size, 1, none⟩) hz3).trans l1
    have m2 := (hbel.cell (p := ⟨w.heap.size, 2, none⟩) hz3).trans l2
    have m3 := (hbel.cell (p := ⟨w.heap.size, 3, none⟩) hz3).trans l3
    have KC := hide (unhide KI x)
    have HTr := hide ((unhide HT).below (unhide HBr) hw0)
    have hr0 : 0 < wr.heap.size := by omega
    have hbr : b < wr.heap.size := by omega
    have h2r : w.heap.size < wr.heap.size := by omega
    obtain ⟨er, her⟩ : ∃ er, er = insE p x r (L.length : Int) v s := ⟨_, rfl⟩
    rw [← her] at KC
    have HX := hide hx
    have HE := hide her
    clear hx her l0 l1 l2 l3 KI
    by_cases h0 : er = 0
    · subst h0
      have hnx := hide (show codedE p L r v s = codedFrom p L r v s (k + 1) (L.length - (k + 1)) by
        rw [unhide HC]; exact coded_on hlt (by rw [← unhide HX]; exact (unhide HE).symm))
      go_wp2_with fail
      go_region_held3 (fun w' => w'.cell? ⟨b, off + k * 4, none⟩ = some (.int .i64 x.op) ∧ w'.cell? ⟨b, off + k * 4 + 1, none⟩ = some (.int .i64 x.d) ∧ w'.cell? ⟨b, off + k * 4 + 2, none⟩ = some (.int .i64 x.a) ∧ w'.cell? ⟨b, off + k * 4 + 3, none⟩ = some (.int .i64 x.b) ∧ w'.cell? ⟨w.heap.size, 0, none⟩ = some (.bool u) ∧ w'.cell? ⟨w.heap.size, 1, none⟩ = some (.int .i64 r) ∧ w'.cell? ⟨w.heap.size, 2, none⟩ = some (.int .i64 s) ∧ w'.cell? ⟨w.heap.size, 3, none⟩ = some (.int .i64 v)) (first | (simp [*]; done) | (refine ⟨?_, ?_, ?_, ?_, ?_, ?_, ?_, ?_⟩ <;> assumption))
        ((go_at_call 62; refine (unhide KC _ ?_ ?_).mono ?_; exact unhide HTr; exact hr0; rintro e w4 ⟨rfl, hb4⟩; have x0 := (hb4.cell (p := ⟨b, off + k * 4, none⟩) hbr).trans c0; have x1 := (hb4.cell (p := ⟨b, off + k * 4 + 1, none⟩) hbr).trans c1; have x2 := (hb4.cell (p := ⟨b, off + k * 4 + 2, none⟩) hbr).trans c2; have x3 := (hb4.cell (p := ⟨b, off + k * 4 + 3, none⟩) hbr).trans c3; have y0 := (hb4.cell (p := ⟨w.heap.size, 0, none⟩) h2r).trans m0; have y1 := (hb4.cell (p := ⟨w.heap.size, 1, none⟩) h2r).trans m1; have y2 := (hb4.cell (p := ⟨w.heap.size, 2, none⟩) h2r).trans m2; have y3 := (hb4.cell (p := ⟨w.heap.size, 3, none⟩) h2r).trans m3; have HB4 := hide (hbel.drew.trans (hb4.mono hB)); clear hb4))
      go_wp2
      go_roundw
      case rel => exact ⟨k + 1, by omega, by go_num, unhide hnx, unhide HB4⟩
      case measure => simp [intOf]; omega
    · have he3 := hide (show codedE p L r v s = (er, (k : Int)) by
        rw [unhide HC, coded_here hlt (by rw [← unhide HX, ← unhide HE]; exact h0), ← unhide HX, ← unhide HE])
      have h0' : (er != 0) = true := by rw [bne_iff_ne]; exact h0
      go_wp2_with fail
      go_region_held3 (fun w' => w'.cell? ⟨b, off + k * 4, none⟩ = some (.int .i64 x.op) ∧ w'.cell? ⟨b, off + k * 4 + 1, none⟩ = some (.int .i64 x.d) ∧ w'.cell? ⟨b, off + k * 4 + 2, none⟩ = some (.int .i64 x.a) ∧ w'.cell? ⟨b, off + k * 4 + 3, none⟩ = some (.int .i64 x.b) ∧ w'.cell? ⟨w.heap.size, 0, none⟩ = some (.bool u) ∧ w'.cell? ⟨w.heap.size, 1, none⟩ = some (.int .i64 r) ∧ w'.cell? ⟨w.heap.size, 2, none⟩ = some (.int .i64 s) ∧ w'.cell? ⟨w.heap.size, 3, none⟩ = some (.int .i64 v)) (first | (simp [*]; done) | (refine ⟨?_, ?_, ?_, ?_, ?_, ?_, ?_, ?_⟩ <;> assumption))
        ((go_at_call 62; refine (unhide KC _ ?_ ?_).mono ?_; exact unhide HTr; exact hr0; rintro e w4 ⟨rfl, hb4⟩; have x0 := (hb4.cell (p := ⟨b, off + k * 4, none⟩) hbr).trans c0; have x1 := (hb4.cell (p := ⟨b, off + k * 4 + 1, none⟩) hbr).trans c1; have x2 := (hb4.cell (p := ⟨b, off + k * 4 + 2, none⟩) hbr).trans c2; have x3 := (hb4.cell (p := ⟨b, off + k * 4 + 3, none⟩) hbr).trans c3; have y0 := (hb4.cell (p := ⟨w.heap.size, 0, none⟩) h2r).trans m0; have y1 := (hb4.cell (p := ⟨w.heap.size, 1, none⟩) h2r).trans m1; have y2 := (hb4.cell (p := ⟨w.heap.size, 2, none⟩) h2r).trans m2; have y3 := (hb4.cell (p := ⟨w.heap.size, 3, none⟩) h2r).trans m3; have HB4 := hide (hbel.drew.trans (hb4.mono hB)); clear hb4))
      go_wp2
      go_ret2
      exact ⟨ret2 (by rw [unhide he3]) (by rw [unhide he3]), (unhide HB3).trans ((unhide HB4).mono (by omega))⟩
end Go.Proofs.YtoepcplbpochpabDoor
