/-
  A right program out of a raw one: lodgekeep.right.
-/
import Derived.Test.YtoepcplbpochpabDoorPart23
import Derived.Test.YtoepcplbpochpabDoorPart22
import Derived.Test.YtoepcplbpochpabDoorPart7
import Derived.Test.YtoepcplbpochpabDoorPart9
import Derived.Test.YtoepcplbpochpabDoorPart15
import Derived.Test.YtoepcplbpochpabDoorPart2
import Derived.Handy
import Derived.OwnWalk
import Derived.Deep.RegionHeld3

namespace Go.Proofs.YtoepcplbpochpabDoor
open Go.RowKit

theorem Tryd.sizeProg : (Tryd.prog.info? 24).map (·.size) = some 4 := by kernel_rfl
theorem inAt_take {L : List In4} {m i : Nat} (h : i < m) : inAt (L.take m) i = inAt L i := by
  unfold inAt; rw [List.getD_eq_getElem?_getD, List.getD_eq_getElem?_getD, List.getElem?_take, if_pos h]
/-- What stands in memory while the program is written. -/
structure RtB (w wr : World) (P R V : Int) (C : List In4) (sv : Value) : Prop where
  p : wr.heap[w.heap.size + 2]? = some (.cells #[.int .i64 P, .int .i64 R, .int .i64 V, sv] 24 (0, 0))
  last : wr.heap[w.heap.size + 3]? = some (.cells #[.int .i64 10, .int .i64 0, .int .i64 0, .int .i64 0] 31 (0, 0))
  res : wr.heap[w.heap.size + 1]? = some (.cells #[.int .i64 0, .int .i64 0, .int .i64 0, .slice none 0 0] 24 (0, 0))
  own : wr.ownsRow (w.heap.size + 4) 31 4 sv C.length (insCells C)
  bel : Below w.heap.size w wr
  size : w.heap.size + 4 ≤ wr.heap.size
theorem rt_start (w : World) (P R V : Int) (A : Obj) : ∃ w3, w3 = (((w.alloc A).alloc (.cells #[.int .i64 0, .int .i64 0, .int .i64 0, .slice none 0 0] 24)).alloc (.cells #[.int .i64 P, .int .i64 R, .int .i64 V, .slice none 0 0] 24)).alloc (.cells #[.int .i64 10, .int .i64 0, .int .i64 0, .int .i64 0] 31) ∧ Hid (RtB w w3 P R V [] (.slice none 0 0)) := by
  refine ⟨_, rfl, ⟨?_, ?_, ?_, World.ownsRow_nil _ _ _ _, ?_, by simp⟩⟩
  · rw [heap_alloc_old _ _ (by simp)]
    have := heap_alloc_new ((w.alloc A).alloc (.cells #[.int .i64 0, .int .i64 0, .int .i64 0, .slice none 0 0] 24)) (.cells #[.int .i64 P, .int .i64 R, .int .i64 V, .slice none 0 0] 24)
    simpa using this
  · have := heap_alloc_new (((w.alloc A).alloc (.cells #[.int .i64 0, .int .i64 0, .int .i64 0, .slice none 0 0] 24)).alloc (.cells #[.int .i64 P, .int .i64 R, .int .i64 V, .slice none 0 0] 24)) (.cells #[.int .i64 10, .int .i64 0, .int .i64 0, .int .i64 0] 31)
    simpa using this
  · rw [heap_alloc_old _ _ (by simp)]; exact heap_mid w _ _ _
  · exact (((((Below.refl _ _).alloc (Nat.le_refl _) _).alloc (by simp) _).alloc (by simp; omega) _).alloc (by simp; omega) _)
/-- Blocks that lay there stay. -/
theorem RtB.below {w wr w' : World} {P R V : Int} {C : List In4} {sv : Value} (h : RtB w wr P R V C sv) (hb : Below wr.heap.size wr w') : RtB w w' P R V C sv := by
  have hs := h.size
  exact ⟨(hb.block _ (by omega)).trans h.p, (hb.block _ (by omega)).trans h.last, (hb.block _ (by omega)).trans h.res, own_keep h.own (Keep.of_below hb (fun _ => False)) (fun _ _ h => h), h.bel.trans (hb.mono (by omega)), by have := hb.size; omega⟩
/-- Writing to a block of its own behind them. -/
theorem RtB.aside {w wr w' : World} {P R V : Int} {C : List In4} {sv : Value} (h : RtB w wr P R V C sv) {g : Nat} (hk : Keep (fun j => j = g) wr w') (hg : w.heap.size + 4 ≤ g) (hs : ∀ k, sv.ownBlock = some k → k ≠ g) : RtB w w' P R V C sv := by
  have hz := h.size
  exact ⟨(hk.block _ (by omega) (by omega)).trans h.p, (hk.block _ (by omega) (by omega)).trans h.last, (hk.block _ (by omega) (by omega)).trans h.res, own_keep h.own hk hs, h.bel.trans (hk.below (by omega) (fun k hk e => by omega)), by have := hk.size; omega⟩
/-- One more instruction. -/
theorem rt_put {w wr wz w3 : World} {P R V : Int} {C : List In4} {sv v' : Value} {y : In4} (h : RtB w wr P R V C sv) (hz : Keep (fun _ => False) wr wz) (hg : wz.grownBy w3 sv.ownBlock)
    (hown : w3.ownsRow (w.heap.size + 4) 31 4 v' (C.length + 1) (insCells C ++ [.int .i64 y.op, .int .i64 y.d, .int .i64 y.a, .int .i64 y.b])) : RtB w (w3.setCell ⟨w.heap.size + 2, 3, none⟩ v') P R V (C ++ [y]) v' := by
  have hs := h.size
  have hb : ∀ k, k < w.heap.size + 4 → w3.heap[k]? = wr.heap[k]? := fun k hk => grown_block hz hg (fun e => by have := (own_in h.own k e.symm).1; omega) (by omega)
  have hk3 : Keep (fun k => w.heap.size + 4 ≤ k) wr w3 := (hz.mono (fun _ _ h => h.elim)).grown hg (fun k e _ => (own_in h.own k e).1)
  have hkB : Keep (fun k => k = w.heap.size + 2) w3 (w3.setCell ⟨w.heap.size + 2, 3, none⟩ v') := keep_set (Keep.refl _ _) _ _
  have hz3 := hk3.size
  refine ⟨?_, (hkB.block _ (by omega) (by omega)).trans ((hb _ (by omega)).trans h.last), (hkB.block _ (by omega) (by omega)).trans ((hb _ (by omega)).trans h.res), ?_, ?_, ?_⟩
  · exact (heap_setCell_same w3 (w.heap.size + 2) 3 _ 24 v' ((hb _ (by omega)).trans h.p)).trans rfl
  · rw [List.length_append, insCells_snoc]
    exact own_keep hown hkB (fun k hk e => by have := (own_in hown k hk).1; omega)
  · exact (h.bel.trans (hk3.below (by omega) (fun k hk e => by omega))).trans (hkB.below (by have := h.bel.size; omega) (fun k hk e => by omega))
  · have := hkB.size; omega
theorem below_alloc' (w : World) (o : Obj) : Below w.heap.size w (w.alloc o) := (Below.refl _ _).alloc (Nat.le_refl _) _
theorem at4_new (w : World) (y : In4) (n : Nat) (hn : n = w.heap.size) : At4 (w.alloc (.cells #[.int .i64 y.op, .int .i64 y.d, .int .i64 y.a, .int .i64 y.b] 31)) n 0 y := by
  refine ⟨?_, ?_, ?_, ?_⟩ <;> (rw [World.cell?_alloc_at (hn := hn)]; rfl)
theorem set4i {w : World} {g : Nat} {z0 z1 z2 z3 : Value} (h : w.heap[g]? = some (.cells #[z0, z1, z2, z3] 31 (0, 0))) (a b c d : Value) :
    ((((w.setCell ⟨g, 0, none⟩ a).setCell ⟨g, 1, none⟩ b).setCell ⟨g, 2, none⟩ c).setCell ⟨g, 3, none⟩ d).heap[g]? = some (.cells #[a, b, c, d] 31 (0, 0)) := by
  have h0 := heap_setCell_same w g 0 _ 31 a h
  have h1 := heap_setCell_same _ g 1 _ 31 b h0
  have h2 := heap_setCell_same _ g 2 _ 31 c h1
  have h3 := heap_setCell_same _ g 3 _ 31 d h2
  rw [h3]; rfl
/-- What right leaves behind. -/
def RightPost (w : World) (most regs : Nat) (e : Ending) (w' : World) : Prop :=
  ∃ (P R V : Nat) (L : List In4) (ao : Option Addr) (cap : Nat), e = .returned (.agg #[.int .i64 P, .int .i64 R, .int .i64 V, .slice ao L.length cap]) ∧ RightP P R V L ∧ R ≤ regs ∧ L.length ≤ most ∧ w'.ownsRow w.heap.size 31 4 (.slice ao L.length cap) L.length (insCells L) ∧ Below w.heap.size w w'

theorem set4p {w : World} {g : Nat} {z0 z1 z2 z3 : Value} (h : w.heap[g]? = some (.cells #[z0, z1, z2, z3] 24 (0, 0))) (a b c d : Value) :
    ((((w.setCell ⟨g, 0, none⟩ a).setCell ⟨g, 1, none⟩ b).setCell ⟨g, 2, none⟩ c).setCell ⟨g, 3, none⟩ d).heap[g]? = some (.cells #[a, b, c, d] 24 (0, 0)) := by
  have h0 := heap_setCell_same w g 0 _ 24 a h
  have h1 := heap_setCell_same _ g 1 _ 24 b h0
  have h2 := heap_setCell_same _ g 2 _ 24 c h1
  have h3 := heap_setCell_same _ g 3 _ 24 d h2
  rw [h3]; rfl
theorem own_len {w : World} {base : Nat} {so : Option Addr} {sn sc n : Nat} {e : TypeId} {size : Nat} {xs : List Value} (h : w.ownsRow base e size (.slice so sn sc) n xs) : sn = n := by
  rcases h.2 with ⟨h1, h2⟩ | ⟨g, cap, cur, h1, _⟩
  · injection h1 with _ h1; omega
  · injection h1
theorem rt_end {w wr : World} {P R V : Nat} {C : List In4} {so : Option Addr} {sn sc most regs : Nat} (h : RtB w wr P R V C (.slice so sn sc)) (hp : RightP P R V C) (hR : R ≤ regs) (hl : C.length ≤ most) (v0 v1 v2 v3 : Value) :
    RightPost w most regs (.returned (.agg #[.int .i64 P, .int .i64 R, .int .i64 V, .slice so sn sc])) ((((wr.setCell ⟨w.heap.size + 1, 0, none⟩ v0).setCell ⟨w.heap.size + 1, 1, none⟩ v1).setCell ⟨w.heap.size + 1, 2, none⟩ v2).setCell ⟨w.heap.size + 1, 3, none⟩ v3) := by
  have hk : Keep (fun j => j = w.heap.size + 1) wr ((((wr.setCell ⟨w.heap.size + 1, 0, none⟩ v0).setCell ⟨w.heap.size + 1, 1, none⟩ v1).setCell ⟨w.heap.size + 1, 2, none⟩ v2).setCell ⟨w.heap.size + 1, 3, none⟩ v3) := keep_set (keep_set (keep_set (keep_set (Keep.refl _ _) _ _) _ _) _ _) _ _
  have hs := h.size
  obtain rfl := own_len h.own
  refine ⟨P, R, V, C, so, sc, rfl, hp, hR, hl, ?_, h.bel.trans (hk.below (by omega) (fun k hk e => by omega))⟩
  exact own_weaken (own_keep h.own hk (fun k hk e => by have := (own_in h.own k hk).1; omega)) (by omega)

set_option maxRecDepth 100000 in
set_option maxHeartbeats 8000000 in
theorem right_any (P0 R0 V0 : Int) (L0 : List In4) (ac : Option Addr) (cc most regs : Nat) (w : World) (hH : HeldIns w ac L0) (hv : RngI L0) (hP0 : Rng P0) (hR0 : Rng R0) (hV0 : Rng V0) (hl : L0.length ≤ 9223372036854775807) (hcc : L0.length ≤ cc) (hm1 : 1 ≤ most) (hm : most ≤ 40) (hr1 : 1 ≤ regs) (hr : regs ≤ 12) :
    Calls Tryd.prog 8 #[.agg #[.int .i64 P0, .int .i64 R0, .int .i64 V0, .slice ac L0.length cc], .int .i64 most, .int .i64 regs] w (RightPost w most regs) := by
  have KP := hide (fun (c n : Int) (w : World) (h : Rng c) (hn : 0 < n) => pick_any c n w h.1 h.2 hn)
  have HH := hide hH
  have HV := hide hv
  have bR := pick_lt R0 regs (by omega)
  have bP := pick_lt P0 5 (by decide)
  have bV := pick_lt V0 5 (by decide)
  obtain ⟨R, hRe⟩ : ∃ R : Nat, (R : Int) = 1 + pickI R0 regs := ⟨(1 + pickI R0 regs).toNat, by omega⟩
  obtain ⟨P1, hP1e⟩ : ∃ P1 : Nat, (P1 : Int) = pickI P0 5 := ⟨(pickI P0 5).toNat, by omega⟩
  obtain ⟨V, hVe⟩ : ∃ V : Nat, (V : Int) = pickI V0 5 := ⟨(pickI V0 5).toNat, by omega⟩
  obtain ⟨P, hPe⟩ : ∃ P : Nat, P = if R < P1 then R else P1 := ⟨_, rfl⟩
  have hR12 : 1 ≤ R ∧ R ≤ regs := by omega
  have hP4 : P ≤ 4 ∧ P ≤ R := by rw [hPe]; split <;> omega
  have hV4 : V ≤ 4 := by omega
  have HRe := hide hRe
  have HP1e := hide hP1e
  have HVe := hide hVe
  have hw1 : IntKind.i64.wrap (1 + pickI R0 regs) = 1 + pickI R0 regs := by rw [IntKind.wrap_i64]; omega
  have HW1 := hide hw1
  have HPe := hide hPe
  clear hH hv hRe hP1e hVe hw1 hPe
  go_enter Tryd.func8, Tryd.ntmps8
  go_wp2_with fail
  refine (unhide KP R0 regs _ hR0 (by omega)).mono ?_
  rintro _ _ ⟨rfl, rfl⟩
  go_wp2_with fail
  refine (unhide KP P0 5 _ hP0 (by decide)).mono ?_
  rintro _ _ ⟨rfl, rfl⟩
  rw [← unhide HP1e, ← unhide HRe]
  go_upto_if 30 with fail
  go_cut [] from 30 to 33 (fun wc => wc = ((w.alloc (.cells #[.int .i64 P0, .int .i64 R0, .int .i64 V0, .slice ac L0.length cc] 24)).alloc (.cells #[.int .i64 0, .int .i64 0, .int .i64 0, .slice none 0 0] 24)).alloc (.cells #[.int .i64 P, .int .i64 R, .int .i64 0, .slice none 0 0] 24))
  case first =>
    by_cases c : R < P1
    · have c1 : (R : Int) < (P1 : Int) := by omega
      have hPe := unhide HPe
      rw [if_pos c] at hPe
      go_wp2_with fail
      go_meet
      case rel => rw [hPe]
    · have c1 : ¬ (R : Int) < (P1 : Int) := by omega
      have hPe := unhide HPe
      rw [if_neg c] at hPe
      go_wp2_with fail
      go_meet
      case rel => rw [hPe]
  case rest =>
  subst hcut
  go_wp2_with fail
  refine (unhide KP V0 5 _ hV0 (by decide)).mono ?_
  rintro _ _ ⟨rfl, rfl⟩
  rw [← unhide HVe]
  obtain ⟨m1, hm1e⟩ : ∃ m1, m1 = if most < L0.length then most else L0.length := ⟨_, rfl⟩
  have hm1l : m1 ≤ most ∧ m1 ≤ L0.length := by rw [hm1e]; split <;> omega
  have HM1 := hide hm1e
  clear hm1e
  go_upto_if 43 with fail
  go_cut [8] from 43 to 46 (fun v wc => v = .slice ac m1 cc ∧ wc = ((w.alloc (.cells #[.int .i64 P0, .int .i64 R0, .int .i64 V0, .slice ac L0.length cc] 24)).alloc (.cells #[.int .i64 0, .int .i64 0, .int .i64 0, .slice none 0 0] 24)).alloc (.cells #[.int .i64 P, .int .i64 R, .int .i64 V, .slice none 0 0] 24))
  case first =>
    by_cases c : most < L0.length
    · have c1 : (most : Int) < (L0.length : Int) := by omega
      have c2 : (most : Int) ≤ (cc : Int) := by omega
      have hm1e := unhide HM1
      rw [if_pos c] at hm1e
      go_wp2_with fail
      go_meet
      case rel => rw [hm1e]; exact ⟨by first | rfl | simp, rfl⟩
    · have c1 : ¬ (most : Int) < (L0.length : Int) := by omega
      have hm1e := unhide HM1
      rw [if_neg c] at hm1e
      go_wp2_with fail
      go_meet
      case rel => rw [hm1e]; exact ⟨rfl, rfl⟩
  case rest =>
  obtain ⟨rfl, rfl⟩ := hcut
  obtain ⟨w3, hw3, HB3⟩ := rt_start w P R V (.cells #[.int .i64 P0, .int .i64 R0, .int .i64 V0, .slice ac L0.length cc] 24)
  have HW3 := hide hw3
  clear hw3
  obtain ⟨en, hen⟩ : ∃ en : Bool, en = decide (0 < m1 ∧ (pickI (inAt L0 (m1 - 1)).op 15 = 7 ∨ pickI (inAt L0 (m1 - 1)).op 15 = 10)) := ⟨_, rfl⟩
  have HEN := hide hen
  clear hen
  go_upto_if 51 with fail
  rw [← unhide HW3]
  go_cut [11, 12] from 51 to 64 (fun v _ wc => v = .bool en ∧ wc = w3)
  case first =>
    by_cases c : m1 = 0
    · have c1 : ¬ 0 < (m1 : Int) := by omega
      have he : en = false := by rw [unhide HEN]; exact decide_eq_false (fun h => by omega)
      have HC := hide c
      clear c
      go_wp2_with fail
      go_meet
      case rel => exact ⟨by rw [he], rfl⟩
    · obtain ⟨q, hq⟩ : ∃ q, m1 = q + 1 := ⟨m1 - 1, by omega⟩
      subst hq
      obtain ⟨b, off, rfl, hb, hI⟩ : ∃ b off, ac = some ⟨b, off, none⟩ ∧ b < w.heap.size ∧ LieI w b off L0 := by
        rcases unhide HH with h | h
        · subst h; exact absurd hm1l.2 (by simp)
        · exact h
      have c0 := (((hI q (by omega)).below (unhide HB3).bel hb)).1
      have hr0 := (unhide HV q (by omega)).1
      have q0 : 0 < (q : Int) + 1 := by omega
      have he : en = decide (pickI (inAt L0 q).op 15 = 7 ∨ pickI (inAt L0 q).op 15 = 10) := by rw [unhide HEN]; simp
      obtain ⟨o, ho⟩ : ∃ o, o = (inAt L0 q).op := ⟨_, rfl⟩
      rw [← ho] at c0 hr0 he
      obtain ⟨z, hz⟩ : ∃ z, z = pickI o 15 := ⟨_, rfl⟩
      rw [← hz] at he
      have HZ := hide hz
      have HE := hide he
      clear hI ho hz he c HM1 HEN
      go_wp2_with fail
      refine (unhide KP o 15 _ hr0 (by decide)).mono ?_
      rintro _ w4 ⟨rfl, hw4⟩
      rw [hw4, ← unhide HZ]
      clear hw4
      by_cases z7 : z = 7
      · have he : en = true := by rw [unhide HE]; exact decide_eq_true (.inl z7)
        subst z7
        go_wp2_with fail
        go_meet
        case rel => exact ⟨by rw [he], rfl⟩
      · by_cases z10 : z = 10
        · have he : en = true := by rw [unhide HE]; exact decide_eq_true (.inr z10)
          subst z10
          go_wp2_with fail
          go_meet
          case rel => exact ⟨by rw [he], rfl⟩
        · have he : en = false := by rw [unhide HE]; exact decide_eq_false (fun h => by omega)
          have z7' : (z == 7) = false := by rw [beq_eq_false_iff_ne]; exact z7
          have z10' : (z == 10) = false := by rw [beq_eq_false_iff_ne]; exact z10
          clear z7 z10
          go_wp2_with fail
          go_meet
          case rel => exact ⟨by rw [he], rfl⟩
  case rest =>
  obtain ⟨rfl, rfl⟩ := hcut
  obtain ⟨m, hme⟩ : ∃ m, m = if en = true then m1 else if m1 = most then m1 - 1 else m1 := ⟨_, rfl⟩
  obtain ⟨n, hne⟩ : ∃ n, n = if en = true then m1 else m + 1 := ⟨_, rfl⟩
  have HM := hide hme
  have HN := hide hne
  clear hme hne
  go_upto_if 66 with fail
  go_cut [8, 9] from 65 to 76 (fun v v' wd => v = .slice ac m cc ∧ v' = .int .i64 n ∧ wd = wc)
  case first =>
    cases en with
    | true =>
      have hm2 : m = m1 := unhide HM
      have hn2 : n = m1 := unhide HN
      subst hm2 hn2
      go_wp2_with fail
      go_meet
      case rel => exact ⟨rfl, rfl, rfl⟩
    | false =>
      have hn2 : n = m + 1 := unhide HN
      by_cases c : m1 = most
      · have hm2 : m = m1 - 1 := by rw [unhide HM, if_neg (by decide), if_pos c]
        obtain ⟨q, hq⟩ : ∃ q, m1 = q + 1 := ⟨m1 - 1, by omega⟩
        have hm3 : m = q := by omega
        subst c hq hm3 hn2
        have c1 : (m : Int) ≤ (cc : Int) := by omega
        clear hm2 HM HN HEN HM1
        go_wp2_with fail
        go_meet
        case rel => exact ⟨by first | rfl | simp, by go_num, rfl⟩
      · have hm2 : m = m1 := by rw [unhide HM, if_neg (by decide), if_neg c]
        subst hm2 hn2
        have c1 : (m : Int) ≤ (cc : Int) := by omega
        have c2 : ((m : Int) == (most : Int)) = false := by rw [beq_eq_false_iff_ne]; omega
        have HC := hide c
        clear c HM HN HEN HM1
        go_wp2_with fail
        go_meet
        case rel => exact ⟨by first | rfl | simp, by go_num, rfl⟩
  case rest =>
  obtain ⟨rfl, rfl, rfl⟩ := hcut
  have hmn : m ≤ m1 ∧ m ≤ L0.length ∧ m < n + 1 ∧ n ≤ most ∧ 1 ≤ n := by
    have h1 := unhide HM
    have h2 := unhide HN
    cases en with
    | true =>
      have : 0 < m1 := by
        have h3 := of_decide_eq_true (unhide HEN).symm
        exact h3.1
      rw [if_pos rfl] at h1 h2; omega
    | false => rw [if_neg (by decide)] at h1 h2; split at h1 <;> omega
  have KI := hide (fun (x : In4) (w : World) (h : Rng x.op ∧ Rng x.d ∧ Rng x.a ∧ Rng x.b) => ins_any x R n V w (by omega) (by omega) (by omega) h.1 h.2.1 h.2.2.1 h.2.2.2)
  obtain ⟨i0, hi, hz0, hz1, hz2⟩ := info_parts Tryd.info31
  clear HM1
  go_wp2_with fail
  go_loopw [13] (fun i' wr => ∃ k : Nat, k ≤ m ∧ i' = .int .i64 k ∧ ∃ sv, Hid (RtB w wr P R V ((L0.take k).map fun x => insF x R n V) sv)) (fun i' _ => m - (intOf i').toNat)
  case atStart => exact ⟨0, Nat.zero_le _, rfl, _, by rw [List.take_zero]; exact unhide HB3⟩
  case round =>
    clear HB3
    obtain ⟨k, hk, rfl, sv, HB⟩ := hrel
    by_cases hlt : k < m
    case neg =>
      obtain rfl : k = m := by omega
      have hPRb : (1 : Int) ≤ (R : Int) ∧ (R : Int) ≤ 12 ∧ (0 : Int) ≤ (P : Int) ∧ (P : Int) ≤ 4 ∧ (P : Int) ≤ (R : Int) ∧ (0 : Int) ≤ (V : Int) ∧ (V : Int) ≤ 4 := by omega
      have hlt' : ¬ ((k : Int) < (k : Int)) := by omega
      have htl : (L0.take k).length = k := by rw [List.length_take]; omega
      cases en with
      | true =>
        have h1 : k = m1 := unhide HM
        have h2 : n = k := by rw [h1]; exact unhide HN
        have h3 := of_decide_eq_true (unhide HEN).symm
        rw [← h1] at h3
        have HRP : Hid (RightP P R V ((L0.take k).map fun x => insF x R n V)) := by
          rw [h2]
          have := raw_ends (P := P) (R := R) (V := V) (l := L0.take k) hPRb.1 hPRb.2.1 hPRb.2.2.1 hPRb.2.2.2.1 hPRb.2.2.2.2.1 hPRb.2.2.2.2.2.1 hPRb.2.2.2.2.2.2 (by omega) (by omega) (by rw [htl, inAt_take (by omega)]; exact h3.2)
          rw [htl] at this
          exact this
        have HX : Hid (RtB w wr P R V ((L0.take k).map fun x => insF x R n V) sv) := unhide HB
        have hlen : ((L0.take k).map fun x => insF x R n V).length ≤ most := by rw [List.length_map, htl]; omega
        have x0 : wr.cell? ⟨w.heap.size + 1 + 1, 0, none⟩ = some (.int .i64 P) := (cell_of_row wr _ 0 _ 24 (0, 0) (unhide HX).p).trans rfl
        have x1 : wr.cell? ⟨w.heap.size + 1 + 1, 1, none⟩ = some (.int .i64 R) := (cell_of_row wr _ 1 _ 24 (0, 0) (unhide HX).p).trans rfl
        have x2 : wr.cell? ⟨w.heap.size + 1 + 1, 2, none⟩ = some (.int .i64 V) := (cell_of_row wr _ 2 _ 24 (0, 0) (unhide HX).p).trans rfl
        have x3 : wr.cell? ⟨w.heap.size + 1 + 1, 3, none⟩ = some sv := (cell_of_row wr _ 3 _ 24 (0, 0) (unhide HX).p).trans rfl
        have z0 : wr.cell? ⟨w.heap.size + 1, 0, none⟩ = some (.int .i64 0) := (cell_of_row wr _ 0 _ 24 (0, 0) (unhide HX).res).trans rfl
        have z1 : wr.cell? ⟨w.heap.size + 1, 1, none⟩ = some (.int .i64 0) := (cell_of_row wr _ 1 _ 24 (0, 0) (unhide HX).res).trans rfl
        have z2 : wr.cell? ⟨w.heap.size + 1, 2, none⟩ = some (.int .i64 0) := (cell_of_row wr _ 2 _ 24 (0, 0) (unhide HX).res).trans rfl
        have z3 : wr.cell? ⟨w.heap.size + 1, 3, none⟩ = some (.slice none 0 0) := (cell_of_row wr _ 3 _ 24 (0, 0) (unhide HX).res).trans rfl
        have zf : ∀ o, wr.frozen? ⟨w.heap.size + 1, o, none⟩ = false := fun o => by have h := (unhide HX).res; simp [World.frozen?, h]
        obtain ⟨so, sn, sc, rfl⟩ := own_slice (unhide HX).own
        clear h1 h2 h3 HB HM HN HEN hPRb htl
        go_wp2_with fail
        refine bodyPost_ret (results_cell_row rfl _ _ (w.heap.size + 1) 24 _ (0, 0) _ rfl (set4p (unhide HX).res _ _ _ _) Tryd.underlying24 rfl Tryd.sizeProg) rfl ?_
        exact rt_end (unhide HX) (unhide HRP) hR12.2 hlen _ _ _ _
      | false =>
        have h2 : n = k + 1 := unhide HN
        have h4 : k + 1 ≤ most := by omega
        have HRP : Hid (RightP P R V (((L0.take k).map fun x => insF x R n V) ++ [⟨10, 0, 0, 0⟩])) := by
          rw [h2]
          have := raw_more (P := P) (R := R) (V := V) (l := L0.take k) hPRb.1 hPRb.2.1 hPRb.2.2.1 hPRb.2.2.2.1 hPRb.2.2.2.2.1 hPRb.2.2.2.2.2.1 hPRb.2.2.2.2.2.2 (by omega)
          rw [htl] at this
          exact this
        have hlen : (((L0.take k).map fun x => insF x R n V) ++ [(⟨10, 0, 0, 0⟩ : In4)]).length ≤ most := by rw [List.length_append, List.length_map, htl]; exact h4
        obtain ⟨C, hC⟩ : ∃ C, C = (L0.take k).map (fun x => insF x R n V) := ⟨_, rfl⟩
        have hCl : C.length = k := by rw [hC, List.length_map, htl]
        rw [← hC] at HB HRP hlen
        clear hC h2 HM HN HEN hPRb htl
        have l0 : wr.cell? ⟨w.heap.size + 1 + 1 + 1, 0, none⟩ = some (.int .i64 10) := (cell_of_row wr _ 0 _ 31 (0, 0) (unhide HB).last).trans rfl
        have l1 : wr.cell? ⟨w.heap.size + 1 + 1 + 1, 1, none⟩ = some (.int .i64 0) := (cell_of_row wr _ 1 _ 31 (0, 0) (unhide HB).last).trans rfl
        have l2 : wr.cell? ⟨w.heap.size + 1 + 1 + 1, 2, none⟩ = some (.int .i64 0) := (cell_of_row wr _ 2 _ 31 (0, 0) (unhide HB).last).trans rfl
        have l3 : wr.cell? ⟨w.heap.size + 1 + 1 + 1, 3, none⟩ = some (.int .i64 0) := (cell_of_row wr _ 3 _ 31 (0, 0) (unhide HB).last).trans rfl
        have q3 : wr.cell? ⟨w.heap.size + 1 + 1, 3, none⟩ = some sv := (cell_of_row wr _ 3 _ 24 (0, 0) (unhide HB).p).trans rfl
        have hfz : ∀ o, wr.frozen? ⟨w.heap.size + 1 + 1, o, none⟩ = false := fun o => by have h := (unhide HB).p; simp [World.frozen?, h]
        have hown := (unhide HB).own
        have hsz := (unhide HB).size
        go_wp2_with (at_builtin; refine wpList_append_own _ rfl _ _ 22 rfl (w.heap.size + 4) 31 i0 (.agg #[.int .i64 0, .int .i64 0, .int .i64 0, .int .i64 0]) 4 32 Tryd.underlying22 hi hz0 hz1 hz2 rfl (by decide) _ _ _ rfl (hown.alloc _) ⟨wr.heap.size, 0, none⟩ 1 1 [.int .i64 10, .int .i64 0, .int .i64 0, .int .i64 0] rfl rfl (cells_new _ _ (by simp) 31 _) (by intro u hu; simp only [List.mem_cons, List.not_mem_nil, or_false] at hu; rcases hu with rfl | rfl | rfl | rfl <;> rfl) (by unfold maxLen; omega) (by omega) (by simp; omega) ?_)
        intro v' w2 hown' hgrow _
        obtain ⟨so, sn, sc, rfl⟩ := own_slice hown'
        have HX := hide (rt_put (y := ⟨10, 0, 0, 0⟩) (unhide HB) ((Keep.refl _ _).alloc _) hgrow (by rw [hCl]; exact hown'))
        have HBL := hide (grown_block (a := wr) ((Keep.refl _ _).alloc _) hgrow (B := w.heap.size + 1 + 1) (fun e => by have := (own_in hown _ e.symm).1; omega) (by omega))
        have r3 : w2.cell? ⟨w.heap.size + 1 + 1, 3, none⟩ = some sv := (World.cell?_of_block (unhide HBL)).trans q3
        have rf : w2.frozen? ⟨w.heap.size + 1 + 1, 3, none⟩ = false := (World.frozen?_of_block (unhide HBL)).trans (hfz 3)
        clear hgrow hown' hown q3 hfz l0 l1 l2 l3 HBL
        go_upto_region 28 with fail
        obtain ⟨w5, hw5⟩ : ∃ w5, w5 = w2.setCell ⟨w.heap.size + 1 + 1, 3, none⟩ (.slice so sn sc) := ⟨_, rfl⟩
        have HX5 : Hid (RtB w w5 P R V (C ++ [⟨10, 0, 0, 0⟩]) (.slice so sn sc)) := by rw [hw5]; exact unhide HX
        rw [← hw5]
        clear hw5 HX r3 rf
        have x0 : w5.cell? ⟨w.heap.size + 1 + 1, 0, none⟩ = some (.int .i64 P) := (cell_of_row w5 _ 0 _ 24 (0, 0) (unhide HX5).p).trans rfl
        have x1 : w5.cell? ⟨w.heap.size + 1 + 1, 1, none⟩ = some (.int .i64 R) := (cell_of_row w5 _ 1 _ 24 (0, 0) (unhide HX5).p).trans rfl
        have x2 : w5.cell? ⟨w.heap.size + 1 + 1, 2, none⟩ = some (.int .i64 V) := (cell_of_row w5 _ 2 _ 24 (0, 0) (unhide HX5).p).trans rfl
        have x3 : w5.cell? ⟨w.heap.size + 1 + 1, 3, none⟩ = some (.slice so sn sc) := (cell_of_row w5 _ 3 _ 24 (0, 0) (unhide HX5).p).trans rfl
        have z0 : w5.cell? ⟨w.heap.size + 1, 0, none⟩ = some (.int .i64 0) := (cell_of_row w5 _ 0 _ 24 (0, 0) (unhide HX5).res).trans rfl
        have z1 : w5.cell? ⟨w.heap.size + 1, 1, none⟩ = some (.int .i64 0) := (cell_of_row w5 _ 1 _ 24 (0, 0) (unhide HX5).res).trans rfl
        have z2 : w5.cell? ⟨w.heap.size + 1, 2, none⟩ = some (.int .i64 0) := (cell_of_row w5 _ 2 _ 24 (0, 0) (unhide HX5).res).trans rfl
        have z3 : w5.cell? ⟨w.heap.size + 1, 3, none⟩ = some (.slice none 0 0) := (cell_of_row w5 _ 3 _ 24 (0, 0) (unhide HX5).res).trans rfl
        have zf : ∀ o, w5.frozen? ⟨w.heap.size + 1, o, none⟩ = false := fun o => by have h := (unhide HX5).res; simp [World.frozen?, h]
        go_wp2_with fail
        refine bodyPost_ret (results_cell_row rfl _ _ (w.heap.size + 1) 24 _ (0, 0) _ rfl (set4p (unhide HX5).res _ _ _ _) Tryd.underlying24 rfl Tryd.sizeProg) rfl ?_
        exact rt_end (unhide HX5) (unhide HRP) hR12.2 hlen _ _ _ _
    obtain ⟨b, off, rfl, hb, hI⟩ : ∃ b off, ac = some ⟨b, off, none⟩ ∧ b < w.heap.size ∧ LieI w b off L0 := by
      rcases unhide HH with h | h
      · subst h; exact absurd (show k < 0 from Nat.lt_of_lt_of_le hlt hmn.2.1) (Nat.not_lt_zero _)
      · exact h
    have hA := ((hI k (by omega)).below (unhide HB).bel hb)
    have hrx := unhide HV k (by omega)
    have HC : Hid ((L0.take (k + 1)).map (fun x => insF x R n V) = (L0.take k).map (fun x => insF x R n V) ++ [insF (inAt L0 k) R n V]) := by
      have e : L0.take (k + 1) = L0.take k ++ [inAt L0 k] := by
        rw [List.take_add_one, List.getElem?_eq_getElem (show k < L0.length by omega)]
        unfold inAt; rw [List.getD_eq_getElem?_getD, List.getElem?_eq_getElem (show k < L0.length by omega)]; rfl
      rw [e, List.map_append]; rfl
    obtain ⟨x, hx⟩ : ∃ x, x = inAt L0 k := ⟨_, rfl⟩
    rw [← hx] at hA hrx HC
    have KC := hide (fun w => unhide KI x w hrx)
    obtain ⟨y, hy⟩ : ∃ y, y = insF x R n V := ⟨_, rfl⟩
    rw [← hy] at HC KC
    obtain ⟨C, hC⟩ : ∃ C, C = (L0.take k).map (fun x => insF x R n V) := ⟨_, rfl⟩
    have hCl : C.length = k := by rw [hC, List.length_map, List.length_take]; omega
    rw [← hC] at HB HC
    clear hx hy hC hrx hI
    obtain ⟨c0, c1, c2, c3⟩ := hA
    have hs := (unhide HB).size
    have hbw := (unhide HB).bel.size
    have p1 : wr.cell? ⟨w.heap.size + 1 + 1, 1, none⟩ = some (.int .i64 R) := (cell_of_row wr _ 1 _ 24 (0, 0) (unhide HB).p).trans rfl
    have p2 : wr.cell? ⟨w.heap.size + 1 + 1, 2, none⟩ = some (.int .i64 V) := (cell_of_row wr _ 2 _ 24 (0, 0) (unhide HB).p).trans rfl
    have hki : (k : Int) < (m : Int) := by omega
    have k0 : (0 : Int) ≤ (k : Int) := by omega
    have hk1 : ∀ (wq : World) (j o : Nat) (z : Value), (wq.setCell ⟨wr.heap.size, j, none⟩ z).cell? ⟨w.heap.size + 1 + 1, o, none⟩ = wq.cell? ⟨w.heap.size + 1 + 1, o, none⟩ := fun wq j o z => World.cell?_setCell_other _ _ _ _ (fun e => by injection e with e1; omega)
    have hk2 : ∀ (wq : World) (j o : Nat) (z : Value), (wq.setCell ⟨wr.heap.size, j, none⟩ z).cell? ⟨b, o, none⟩ = wq.cell? ⟨b, o, none⟩ := fun wq j o z => World.cell?_setCell_other _ _ _ _ (fun e => by injection e with e1; omega)
    go_upto_region 24 with fail
    go_cut [14] from 77 to 98 (fun v14 we => ∃ N : Nat, v14 = .pointer (some ⟨N, 0, none⟩) ∧ Hid (At4 we N 0 y) ∧ Hid (RtB w we P R V C sv) ∧ w.heap.size + 4 ≤ N ∧ N < we.heap.size)
    case first =>
      go_region_held3 (fun w' => w'.cell? ⟨b, off + k * 4, none⟩ = some (.int .i64 x.op) ∧ w'.cell? ⟨b, off + k * 4 + 1, none⟩ = some (.int .i64 x.d) ∧ w'.cell? ⟨b, off + k * 4 + 2, none⟩ = some (.int .i64 x.a) ∧ w'.cell? ⟨b, off + k * 4 + 3, none⟩ = some (.int .i64 x.b) ∧ w'.cell? ⟨w.heap.size + 1 + 1, 1, none⟩ = some (.int .i64 (R : Int)) ∧ w'.cell? ⟨w.heap.size + 1 + 1, 2, none⟩ = some (.int .i64 (V : Int))) (first | go_keep | (simp [*]; done) | assumption)
        ((go_at_call 16; refine (unhide KC _).mono ?_; rintro e w5 ⟨rfl, hb5⟩; first | (have HB5 : Hid (Below wr.heap.size wr w5) := ⟨hb5.os, hb5.tape, hb5.output, hb5.size, hb5.block⟩; clear hb5; have y0 := (unhide HB5).cell (p := ⟨b, off + k * 4, none⟩) (show b < wr.heap.size by omega); have hz5 : wr.heap.size ≤ w5.heap.size := (unhide HB5).size; have d0 := y0.trans c0; have d1 := ((unhide HB5).cell (p := ⟨b, off + k * 4 + 1, none⟩) (show b < wr.heap.size by omega)).trans c1; have d2 := ((unhide HB5).cell (p := ⟨b, off + k * 4 + 2, none⟩) (show b < wr.heap.size by omega)).trans c2; have d3 := ((unhide HB5).cell (p := ⟨b, off + k * 4 + 3, none⟩) (show b < wr.heap.size by omega)).trans c3; have d4 := ((unhide HB5).cell (p := ⟨w.heap.size + 1 + 1, 1, none⟩) (show w.heap.size + 1 + 1 < wr.heap.size by omega)).trans p1; have d5 := ((unhide HB5).cell (p := ⟨w.heap.size + 1 + 1, 2, none⟩) (show w.heap.size + 1 + 1 < wr.heap.size by omega)).trans p2; clear y0 c0 c1 c2 c3 p1 p2) | (have HB5 : Hid (Below wr.heap.size wr w5) := ((below_alloc' wr (.cells #[.int .i64 0, .int .i64 0, .int .i64 0, .int .i64 0] 31)).drew).trans (hb5.mono (by simp)); have HN5 : Hid (w5.heap[wr.heap.size]? = some (.cells #[.int .i64 0, .int .i64 0, .int .i64 0, .int .i64 0] 31 (0, 0))) := (hb5.block wr.heap.size (by simp)).trans (heap_alloc_new wr _); have n0 : w5.cell? ⟨wr.heap.size, 0, none⟩ = some (.int .i64 0) := (cell_of_row w5 _ 0 _ 31 (0, 0) (unhide HN5)).trans rfl; have n1 : w5.cell? ⟨wr.heap.size, 1, none⟩ = some (.int .i64 0) := (cell_of_row w5 _ 1 _ 31 (0, 0) (unhide HN5)).trans rfl; have n2 : w5.cell? ⟨wr.heap.size, 2, none⟩ = some (.int .i64 0) := (cell_of_row w5 _ 2 _ 31 (0, 0) (unhide HN5)).trans rfl; have n3 : w5.cell? ⟨wr.heap.size, 3, none⟩ = some (.int .i64 0) := (cell_of_row w5 _ 3 _ 31 (0, 0) (unhide HN5)).trans rfl; have nf : ∀ o, w5.frozen? ⟨wr.heap.size, o, none⟩ = false := (fun o => by have h := unhide HN5; simp [World.frozen?, h]); clear hb5; have y0 := (unhide HB5).cell (p := ⟨b, off + k * 4, none⟩) (show b < wr.heap.size by omega); have hz5 : wr.heap.size ≤ w5.heap.size := (unhide HB5).size; have d0 := y0.trans c0; have d1 := ((unhide HB5).cell (p := ⟨b, off + k * 4 + 1, none⟩) (show b < wr.heap.size by omega)).trans c1; have d2 := ((unhide HB5).cell (p := ⟨b, off + k * 4 + 2, none⟩) (show b < wr.heap.size by omega)).trans c2; have d3 := ((unhide HB5).cell (p := ⟨b, off + k * 4 + 3, none⟩) (show b < wr.heap.size by omega)).trans c3; have d4 := ((unhide HB5).cell (p := ⟨w.heap.size + 1 + 1, 1, none⟩) (show w.heap.size + 1 + 1 < wr.heap.size by omega)).trans p1; have d5 := ((unhide HB5).cell (p := ⟨w.heap.size + 1 + 1, 2, none⟩) (show w.heap.size + 1 + 1 < wr.heap.size by omega)).trans p2; clear y0 c0 c1 c2 c3 p1 p2)))
      · have HP := hide (And.intro (at4_new w5 y w5.heap.size rfl) (((unhide HB).below (unhide HB5)).below (below_alloc' w5 (.cells #[.int .i64 y.op, .int .i64 y.d, .int .i64 y.a, .int .i64 y.b] 31))))
        clear d0 d1 d2 d3 d4 d5
        go_wp2_with fail
        go_meet
        case rel => exact ⟨w5.heap.size, rfl, (unhide HP).1, (unhide HP).2, by omega, by simp⟩
      · obtain ⟨w6, hw6⟩ : ∃ w6, w6 = (((w5.setCell ⟨wr.heap.size, 0, none⟩ (.int .i64 y.op)).setCell ⟨wr.heap.size, 1, none⟩ (.int .i64 y.d)).setCell ⟨wr.heap.size, 2, none⟩ (.int .i64 y.a)).setCell ⟨wr.heap.size, 3, none⟩ (.int .i64 y.b) := ⟨_, rfl⟩
        rw [← hw6]
        have hrow : w6.heap[wr.heap.size]? = some (.cells #[.int .i64 y.op, .int .i64 y.d, .int .i64 y.a, .int .i64 y.b] 31 (0, 0)) := by rw [hw6]; exact set4i (unhide HN5) _ _ _ _
        have hk6 : Keep (fun j => j = wr.heap.size) w5 w6 := by rw [hw6]; exact keep_set (keep_set (keep_set (keep_set (Keep.refl _ _) _ _) _ _) _ _) _ _
        have HP := hide (And.intro (show At4 w6 wr.heap.size 0 y from ⟨(cell_of_row w6 _ 0 _ 31 (0, 0) hrow).trans rfl, (cell_of_row w6 _ 1 _ 31 (0, 0) hrow).trans rfl, (cell_of_row w6 _ 2 _ 31 (0, 0) hrow).trans rfl, (cell_of_row w6 _ 3 _ 31 (0, 0) hrow).trans rfl⟩) (((unhide HB).below (unhide HB5)).aside hk6 (by omega) (fun k hk => by have := (own_in (unhide HB).own k hk).2; omega)))
        have hz6 : wr.heap.size < w6.heap.size := (Array.getElem?_eq_some_iff.1 hrow).1
        clear d0 d1 d2 d3 d4 d5 n0 n1 n2 n3 nf hw6 hrow hk6
        go_wp2_with fail
        go_meet
        case rel => exact ⟨wr.heap.size, rfl, (unhide HP).1, (unhide HP).2, by omega, hz6⟩
    case rest =>
    obtain ⟨N, rfl, HA, HBc, hN4, hNz⟩ := hcut
    clear c0 c1 c2 c3 p1 p2 HB hk1 hk2 KC
    obtain ⟨wa, rfl⟩ : ∃ wa, wa = wc := ⟨_, rfl⟩
    obtain ⟨a0, a1, a2, a3⟩ := unhide HA
    have q3 : wa.cell? ⟨w.heap.size + 1 + 1, 3, none⟩ = some sv := (cell_of_row wa _ 3 _ 24 (0, 0) (unhide HBc).p).trans rfl
    have hfz : ∀ o, wa.frozen? ⟨w.heap.size + 1 + 1, o, none⟩ = false := fun o => by have h := (unhide HBc).p; simp [World.frozen?, h]
    have hown := (unhide HBc).own
    have hsz := (unhide HBc).size
    go_wp2_with (at_builtin; refine wpList_append_own _ rfl _ _ 22 rfl (w.heap.size + 4) 31 i0 (.agg #[.int .i64 0, .int .i64 0, .int .i64 0, .int .i64 0]) 4 32 Tryd.underlying22 hi hz0 hz1 hz2 rfl (by decide) _ _ _ rfl (hown.alloc _) ⟨wa.heap.size, 0, none⟩ 1 1 [.int .i64 y.op, .int .i64 y.d, .int .i64 y.a, .int .i64 y.b] rfl rfl (cells_new _ _ (by simp) 31 _) (by intro u hu; simp only [List.mem_cons, List.not_mem_nil, or_false] at hu; rcases hu with rfl | rfl | rfl | rfl <;> rfl) (by unfold maxLen; omega) (by omega) (by simp; omega) ?_)
    intro v' w2 hown' hgrow _
    obtain ⟨so', sn', sc', rfl⟩ := own_slice hown'
    have HR2 := hide (rt_put (y := y) (unhide HBc) ((Keep.refl _ _).alloc _) hgrow (by rw [hCl]; exact hown'))
    have HBL := hide (grown_block (a := wa) ((Keep.refl _ _).alloc _) hgrow (B := w.heap.size + 1 + 1) (fun e => by have := (own_in hown _ e.symm).1; omega) (by omega))
    have r3 : w2.cell? ⟨w.heap.size + 1 + 1, 3, none⟩ = some sv := (World.cell?_of_block (unhide HBL)).trans q3
    have rf : w2.frozen? ⟨w.heap.size + 1 + 1, 3, none⟩ = false := (World.frozen?_of_block (unhide HBL)).trans (hfz 3)
    clear hgrow hown' hown q3 hfz a0 a1 a2 a3 HBL
    go_wp2_with fail
    go_roundw
    case rel => exact ⟨k + 1, by omega, by go_num, _, by rw [unhide HC]; exact unhide HR2⟩
    case measure => simp [intOf]; omega
end Go.Proofs.YtoepcplbpochpabDoor

/-
  Args out of raw numbers: lodgekeep.fit.
-/
namespace Go.Proofs.YtoepcplbpochpabDoor
open Go.RowKit

theorem Tryd.infoFit : (Tryd.prog.info? 3).map (fun i => (i.zero, i.size, i.bytes)) = some (some (.int .i64 0), 1, 8) := by kernel_rfl

set_option maxRecDepth 100000 in
set_option maxHeartbeats 4000000 in
theorem fit_any (raw : List Int) (ao : Option Addr) (cap P : Nat) (w : World) (hH : HeldI w ao raw) (hv : ∀ i, i < raw.length → Rng (nth raw i)) (hl : raw.length ≤ 9223372036854775807) (hP : P ≤ 4) :
    Calls Tryd.prog 10 #[.slice ao raw.length cap, .int .i64 P] w fun e w' => ∃ v, e = .returned v ∧ w'.ownsRow w.heap.size 3 1 v P (intCells (fitTo raw P)) ∧ Below w.heap.size w w' := by
  have HH := hide hH
  have HV := hide hv
  have KP := hide (fun (c n : Int) (w : World) (h : Rng c) (hn : 0 < n) => pick_any c n w h.1 h.2 hn)
  obtain ⟨i0, hi, hz0, hz1, hz2⟩ := info_parts Tryd.infoFit
  clear hH hv
  go_enter Tryd.func10, Tryd.ntmps10
  go_wp2_with fail
  go_loopw [5, 6] (fun v i wr => ∃ k : Nat, k ≤ P ∧ i = .int .i64 k ∧ wr.ownsRow w.heap.size 3 1 v k (intCells (fitTo raw k)) ∧ Below w.heap.size w wr) (fun _ i _ => P - (intOf i).toNat)
  case atStart => exact ⟨0, Nat.zero_le _, rfl, World.ownsRow_nil _ _ _ _, Below.refl _ _⟩
  case round =>
    obtain ⟨k, hk, rfl, hown, hbel⟩ := hrel
    have hB := hbel.size
    by_cases hlt : k < P
    case neg =>
      obtain rfl : k = P := by omega
      go_wp2_with fail
      go_returns
      exact ⟨_, rfl, hown, hbel⟩
    have hki : (k : Int) < (P : Int) := by omega
    have HS : Hid (intCells (fitTo raw (k + 1)) = intCells (fitTo raw k) ++ [.int .i64 (fitV raw k)]) := by show intCells (fitTo raw k ++ [fitV raw k]) = _; exact intCells_snoc _ _
    by_cases h0 : raw.length = 0
    · have hv0 : fitV raw k = 0 := by unfold fitV; rw [if_pos h0]
      have hgt : ¬ (0 < (raw.length : Int)) := by omega
      rw [hv0] at HS
      have H0 := hide h0
      clear h0 hv0
      go_wp2_with (at_builtin; refine wpList_append_own _ rfl _ _ 25 rfl w.heap.size 3 i0 (.int .i64 0) 1 8 Tryd.underlying25 hi hz0 hz1 hz2 rfl (by decide) _ _ _ rfl (hown.alloc _) ⟨wr.heap.size, 0, none⟩ 1 1 [.int .i64 0] rfl rfl (cells_new _ _ (by simp) 3 _) (by intro u hu; simp only [List.mem_cons, List.not_mem_nil, or_false] at hu; subst hu; rfl) (by unfold maxLen; omega) (by omega) (by simp; omega) ?_)
      intro v' w2 hown' hgrow _
      have hb2 : Below w.heap.size w w2 := (hbel.alloc hbel.size _).grown hgrow (by simp; omega) (own_ge hown)
      rw [← unhide HS] at hown'
      clear hgrow hown
      go_wp2_with fail
      go_roundw
      case rel => exact ⟨k + 1, by omega, by go_num, hown', hb2⟩
      case measure => simp [intOf]; omega
    · have hv0 : fitV raw k = pickI (nth raw (k % raw.length)) 65536 := by unfold fitV; rw [if_neg h0]
      have hmod : k % raw.length < raw.length := Nat.mod_lt _ (by omega)
      obtain ⟨b, off, rfl, hb, hc⟩ : ∃ b off, ao = some ⟨b, off, none⟩ ∧ b < w.heap.size ∧ ∀ i, i < raw.length → w.cell? ⟨b, off + i, none⟩ = some (.int .i64 (nth raw i)) := by
        rcases unhide HH with h | h
        · subst h; exact absurd rfl h0
        · exact h
      have d1 : wr.cell? ⟨b, off + k % raw.length, none⟩ = some (.int .i64 (nth raw (k % raw.length))) := (hbel.cell (p := ⟨b, off + k % raw.length, none⟩) hb).trans (hc _ hmod)
      have hr := unhide HV _ hmod
      have hm : (k : Int).tmod (raw.length : Int) = ((k % raw.length : Nat) : Int) := by rw [Int.tmod_eq_emod_of_nonneg (by omega)]; rfl
      have hne : ((raw.length : Int) == 0) = false := by rw [beq_eq_false_iff_ne]; omega
      have hgt : 0 < (raw.length : Int) := by omega
      have i1 : (((k % raw.length : Nat) : Int)) < (raw.length : Int) := by omega
      rw [hv0] at HS
      obtain ⟨c, hce⟩ : ∃ c, c = nth raw (k % raw.length) := ⟨_, rfl⟩
      rw [← hce] at d1 HS hr
      obtain ⟨j, hje⟩ : ∃ j, j = k % raw.length := ⟨_, rfl⟩
      rw [← hje] at d1 hm i1
      have hm0 : 0 ≤ (k : Int).tmod (raw.length : Int) := by omega
      have hm1 : (k : Int).tmod (raw.length : Int) < (raw.length : Int) := by omega
      have hm2 : ((k : Int).tmod (raw.length : Int)).toNat = j := by omega
      clear hc hce hv0 hje hmod
      have H0 := hide h0
      clear h0
      go_wp2_with fail
      refine (unhide KP c 65536 _ hr (by decide)).mono ?_
      rintro _ w4 ⟨rfl, hw4⟩
      rw [hw4]
      clear hw4
      go_wp2_with (at_builtin; refine wpList_append_own _ rfl _ _ 25 rfl w.heap.size 3 i0 (.int .i64 0) 1 8 Tryd.underlying25 hi hz0 hz1 hz2 rfl (by decide) _ _ _ rfl (hown.alloc _) ⟨wr.heap.size, 0, none⟩ 1 1 [.int .i64 (pickI c 65536)] rfl rfl (cells_new _ _ (by simp) 3 _) (by intro u hu; simp only [List.mem_cons, List.not_mem_nil, or_false] at hu; subst hu; rfl) (by unfold maxLen; omega) (by omega) (by simp; omega) ?_)
      intro v' w2 hown' hgrow _
      have hb2 : Below w.heap.size w w2 := (hbel.alloc hbel.size _).grown hgrow (by simp; omega) (own_ge hown)
      rw [← unhide HS] at hown'
      clear hgrow hown d1
      go_wp2_with fail
      go_roundw
      case rel => exact ⟨k + 1, by omega, by go_num, hown', hb2⟩
      case measure => simp [intOf]; omega
end Go.Proofs.YtoepcplbpochpabDoor

/-
  A right program, its unit and its args in memory, and runs of both.
-/
namespace Go.Proofs.YtoepcplbpochpabDoor
open Go.RowKit

/-- A result's block. -/
structure ResAt (w : World) (N base : Nat) (s : St) (oo : Option Addr) (oc : Nat) (so : Option Addr) (sc : Nat) : Prop where
  blk : w.heap[N]? = some (.cells #[.int .i64 s.kind, .int .i64 s.val, .int .i64 (s.steps : Int), .slice oo s.outs.length oc, .slice so s.stops.length sc] 38 (0, 0))
  outs : w.ownsRow base 3 1 (.slice oo s.outs.length oc) s.outs.length (intCells s.outs)
  stops : w.ownsRow base 57 5 (.slice so s.stops.length sc) s.stops.length (snCells s.stops)
theorem ResAt.lt {w : World} {N base : Nat} {s : St} {oo : Option Addr} {oc : Nat} {so : Option Addr} {sc : Nat} (h : ResAt w N base s oo oc so sc) : N < w.heap.size := (Array.getElem?_eq_some_iff.1 h.blk).1
theorem ResAt.below {w w' : World} {N base : Nat} {s : St} {oo : Option Addr} {oc : Nat} {so : Option Addr} {sc : Nat} (h : ResAt w N base s oo oc so sc) (hb : Below w.heap.size w w') : ResAt w' N base s oo oc so sc :=
  ⟨(hb.block N h.lt).trans h.blk, own_keep h.outs (Keep.of_below hb (fun _ => False)) (fun _ _ h => h), own_keep h.stops (Keep.of_below hb (fun _ => False)) (fun _ _ h => h)⟩
theorem ResAt.res {w : World} {N base : Nat} {s : St} {oo : Option Addr} {oc : Nat} {so : Option Addr} {sc : Nat} (h : ResAt w N base s oo oc so sc) : ResOf w base (.agg #[.int .i64 s.kind, .int .i64 s.val, .int .i64 (s.steps : Int), .slice oo s.outs.length oc, .slice so s.stops.length sc]) s := ⟨_, _, rfl, h.outs, h.stops⟩
theorem ResAt.c0 {w : World} {N base : Nat} {s : St} {oo : Option Addr} {oc : Nat} {so : Option Addr} {sc : Nat} (h : ResAt w N base s oo oc so sc) : w.cell? ⟨N, 0, none⟩ = some (.int .i64 s.kind) := (cell_of_row w N 0 _ 38 (0, 0) h.blk).trans rfl
theorem ResAt.c1 {w : World} {N base : Nat} {s : St} {oo : Option Addr} {oc : Nat} {so : Option Addr} {sc : Nat} (h : ResAt w N base s oo oc so sc) : w.cell? ⟨N, 1, none⟩ = some (.int .i64 s.val) := (cell_of_row w N 1 _ 38 (0, 0) h.blk).trans rfl
theorem ResAt.c2 {w : World} {N base : Nat} {s : St} {oo : Option Addr} {oc : Nat} {so : Option Addr} {sc : Nat} (h : ResAt w N base s oo oc so sc) : w.cell? ⟨N, 2, none⟩ = some (.int .i64 (s.steps : Int)) := (cell_of_row w N 2 _ 38 (0, 0) h.blk).trans rfl
theorem ResAt.c3 {w : World} {N base : Nat} {s : St} {oo : Option Addr} {oc : Nat} {so : Option Addr} {sc : Nat} (h : ResAt w N base s oo oc so sc) : w.cell? ⟨N, 3, none⟩ = some (.slice oo s.outs.length oc) := (cell_of_row w N 3 _ 38 (0, 0) h.blk).trans rfl
theorem ResAt.c4 {w : World} {N base : Nat} {s : St} {oo : Option Addr} {oc : Nat} {so : Option Addr} {sc : Nat} (h : ResAt w N base s oo oc so sc) : w.cell? ⟨N, 4, none⟩ = some (.slice so s.stops.length sc) := (cell_of_row w N 4 _ 38 (0, 0) h.blk).trans rfl
/-- Behind a run: its result, boxed. -/
theorem after_run {w w6 : World} {s : St} {e : Ending} (h : RunPost w (0, s) e w6) : ∃ oo oc so sc, e = .returned (.tuple #[.agg #[.int .i64 s.kind, .int .i64 s.val, .int .i64 (s.steps : Int), .slice oo s.outs.length oc, .slice so s.stops.length sc], .int .i64 0]) ∧
    ∃ w7, w7 = w6.alloc (.cells #[.int .i64 s.kind, .int .i64 s.val, .int .i64 (s.steps : Int), .slice oo s.outs.length oc, .slice so s.stops.length sc] 38) ∧ Hid (ResAt w7 w6.heap.size w.heap.size s oo oc so sc) ∧ Hid (Below w.heap.size w w7) ∧ w.heap.size ≤ w6.heap.size := by
  obtain ⟨v, rfl, ⟨vo, vs, rfl, ho, hs⟩, hb⟩ := h
  obtain ⟨oo, oc, rfl, _, _⟩ := own_heldI ho
  obtain ⟨so, sc, rfl, _, _⟩ := own_heldS hs
  refine ⟨oo, oc, so, sc, rfl, _, rfl, ⟨heap_alloc_new _ _, ?_, ?_⟩, hb.trans ((below_alloc _ _).mono hb.size), hb.size⟩
  · exact own_keep ho (Keep.of_below (below_alloc _ _) (fun _ => False)) (fun _ _ h => h)
  · exact own_keep hs (Keep.of_below (below_alloc _ _) (fun _ => False)) (fun _ _ h => h)
/-- A right program at Np, its args. -/
structure LabP (w : World) (Np : Nat) (P R V : Nat) (L : List In4) (ac : Option Addr) (cc : Nat) (aa : Option Addr) (xs : List Int) : Prop where
  prog : ProgB w Np P R V (.slice ac L.length cc)
  code : HeldIns w ac L
  args : HeldI w aa xs
  tab : Tab w
  pos : 0 < w.heap.size
theorem LabP.below {w w' : World} {Np P R V : Nat} {L : List In4} {ac : Option Addr} {cc : Nat} {aa : Option Addr} {xs : List Int} (h : LabP w Np P R V L ac cc aa xs) (hb : Below w.heap.size w w') : LabP w' Np P R V L ac cc aa xs :=
  ⟨(hb.block Np (Array.getElem?_eq_some_iff.1 h.prog).1).trans h.prog, h.code.below' hb, h.args.below hb, h.tab.below hb h.pos, by have := hb.size; have := h.pos; omega⟩
/-- Its unit at Nu. -/
structure LabU (w : World) (Nu : Nat) (P R V K : Nat) (L : List In4) (uo : Option Addr) (uc : Nat) : Prop where
  unit : UnB w Nu K (slotsB L P R K) P V (.slice uo (cmpC P R K L).length uc) (encT (cmpR P R V K L))
  code : HeldIns w uo (cmpC P R K L)
theorem LabU.below {w w' : World} {Nu P R V K : Nat} {L : List In4} {uo : Option Addr} {uc : Nat} (h : LabU w Nu P R V K L uo uc) (hb : Below w.heap.size w w') : LabU w' Nu P R V K L uo uc :=
  ⟨h.unit.below hb (Array.getElem?_eq_some_iff.1 h.unit).1, h.code.below' hb⟩
/-- A run of the program. -/
theorem lab_run {P R V : Nat} {L : List In4} (hp : RightP P R V L) {xs : List Int} (hx : ArgsOk xs P) (ac aa : Option Addr) (cc ca f : Nat) (hf : f ≤ 100000) (w : World) (hH : HeldIns w ac L) (hA : HeldI w aa xs) (hT : Tab w) (hw0 : 0 < w.heap.size) :
    Calls Tryd.prog 13 #[.agg #[.int .i64 P, .int .i64 R, .int .i64 V, .slice ac L.length cc], .slice aa xs.length ca, .int .i64 f] w (RunPost w (0, runSt L f (st0 xs))) := by
  have h := run_any P R V L ac aa cc ca xs f w hH hA hT hw0 (by have := hp.n40; omega) (by have := hp.p4; have := hx.len; omega)
  rw [runE_ok hp hx hf] at h
  exact h
/-- A run of the unit. -/
theorem lab_mach {P R V K : Nat} {L : List In4} (hp : RightP P R V L) (hK : 2 ≤ K) (hK' : K ≤ 16) {xs : List Int} (hx : ArgsOk xs P) (uo aa : Option Addr) (uc ca f : Nat) (hf : f ≤ 100000) (w : World) (hH : HeldIns w uo (cmpC P R K L)) (hA : HeldI w aa xs) (hT : Tab w) (hw0 : 0 < w.heap.size) :
    Calls Tryd.prog 14 #[.agg #[.int .i64 K, .int .i64 (slotsB L P R K), .int .i64 P, .int .i64 V, .slice uo (cmpC P R K L).length uc, .string (encT (cmpR P R V K L))], .slice aa xs.length ca, .int .i64 f] w (RunPost w (0, runSt (cmpC P R K L) f (stU (cmpR P R V K L) none xs))) := by
  have hTs : (encT (cmpR P R V K L)).size ≤ maxLen := Nat.le_trans (tab_size (unit_ok hp hK hK').2) (by unfold maxLen; omega)
  have hCl : (cmpC P R K L).length ≤ 9223372036854775807 := by
    rw [cmpC_len]
    have := wTo_len (homS L R K) (homA L R K) K (liveB L 0) P L L.length
    have := hp.p4
    have := hp.n40
    unfold cmpQ; omega
  have h := machRun_any K (slotsB L P R K) P V (cmpC P R K L) (encT (cmpR P R V K L)) uo aa uc ca xs f w hH hA hT hw0 hCl (by have := hp.p4; have := hx.len; omega) hTs
  rw [runU_ok hp hK hK' hx hf] at h
  exact h
theorem fit_args {raw : List Int} {P : Nat} : ArgsOk (fitTo raw P) P := ⟨fitTo_len raw P, fitTo_ok raw P⟩
/-- The head of a statement: the raw program in its box. -/
theorem box_prog (w : World) (P R V : Int) (sl : Value) : ∃ w1, w1 = w.alloc (.cells #[.int .i64 P, .int .i64 R, .int .i64 V, sl] 24) ∧ Hid (ProgB w1 w.heap.size P R V sl) ∧ Hid (Below w.heap.size w w1) ∧ w1.heap.size = w.heap.size + 1 :=
  ⟨_, rfl, progb_alloc w P R V sl, below_alloc _ _, by simp⟩
theorem box_unit (w : World) (K S P V : Int) (sl : Value) (T : ByteArray) : ∃ w1, w1 = w.alloc (.cells #[.int .i64 K, .int .i64 S, .int .i64 P, .int .i64 V, sl, .string T] 33) ∧ Hid (UnB w1 w.heap.size K S P V sl T) ∧ Hid (Below w.heap.size w w1) ∧ w1.heap.size = w.heap.size + 1 :=
  ⟨_, rfl, heap_alloc_new _ _, below_alloc _ _, by simp⟩
theorem labu_cells {w : World} {Nu P R V K : Nat} {L : List In4} {uo : Option Addr} {uc : Nat} (h : LabU w Nu P R V K L uo uc) :
    w.cell? ⟨Nu, 0, none⟩ = some (.int .i64 K) ∧ w.cell? ⟨Nu, 1, none⟩ = some (.int .i64 (slotsB L P R K : Nat)) ∧ w.cell? ⟨Nu, 2, none⟩ = some (.int .i64 P) ∧ w.cell? ⟨Nu, 3, none⟩ = some (.int .i64 V) ∧ w.cell? ⟨Nu, 4, none⟩ = some (.slice uo (cmpC P R K L).length uc) ∧ w.cell? ⟨Nu, 5, none⟩ = some (.string (encT (cmpR P R V K L))) :=
  ⟨h.unit.c0, h.unit.c1, h.unit.c2, h.unit.c3, h.unit.c4, h.unit.c5⟩
end Go.Proofs.YtoepcplbpochpabDoor
