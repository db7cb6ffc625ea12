/-
  What lodgeref.coded computes: the first error of code, and its place.
-/
import Derived.Test.YtoepcplbpochpaaDoorPiece26
import Derived.Test.YtoepcplbpochpaaDoorPiece8
import Derived.Deep.QuietTactic
import Derived.BigQuiet
import Derived.Deep.RegionHeld3
import Derived.Test.YtoepcplbpochpaaDoorPiece14
import Derived.Test.YtoepcplbpochpaaDoorPiece15
import Derived.Test.YtoepcplbpochpaaDoorPiece16
import Derived.Deep.AppendLies

namespace Go.Proofs.YtoepcplbpochpaaDoor
open Go.RowKit

theorem ops_cell {w : World} {g : Nat} {p : Bool} (h : w.heap[g]? = some (.cells (opsA p) 4 (0, 0))) (k : Nat) (hk : k < 17) : w.cell? ⟨g, k, none⟩ = some (.bool (opB p k)) := by
  rw [cell_of_row w g k _ 4 (0, 0) h]
  unfold opsA
  simp [hk]


set_option maxRecDepth 100000 in
set_option maxHeartbeats 2000000 in
theorem coded_any (p : Bool) (L : List In4) (b off cap g : Nat) (r v s : Int) (w : World) (hL : LieI w b off L) (hb : b < w.heap.size) (hg : w.heap[g]? = some (.cells (opsA p) 4 (0, 0))) (hn0 : 0 < L.length) (hn1 : L.length ≤ 9223372036854775807) :
    Calls Tryd.prog 43 #[.slice (some ⟨b, off, none⟩) L.length cap, .slice (some ⟨g, 0, none⟩) 17 17, .int .i64 r, .int .i64 v, .int .i64 s] w fun e w' =>
      e = .returned (.tuple #[.int .i64 (codedE p L r v s).1, .int .i64 (codedE p L r v s).2]) ∧ Below w.heap.size w w' := by
  have hgl : g < w.heap.size := (Array.getElem?_eq_some_iff.1 hg).1
  have HG := hide hg
  have HLie := hide hL
  clear hg hL
  go_enter Tryd.func43, Tryd.ntmps43
  go_wp2
  go_loopw [12] (fun i wr => ∃ k : Nat, k ≤ L.length ∧ i = .int .i64 k ∧ Hid (codedE p L r v s = codedFrom p L r v s k (L.length - k)) ∧ Below w.heap.size w wr) (fun i _ => L.length - (intOf i).toNat)
  case atStart => exact ⟨0, Nat.zero_le _, rfl, rfl, Below.refl _ _⟩
  case round =>
    obtain ⟨k, hk, rfl, HC, hbel⟩ := hrel
    have hB := hbel.size
    by_cases hlt : k < L.length
    case neg =>
      obtain rfl : k = L.length := by omega
      obtain ⟨x, hx⟩ : ∃ x, x = inAt L (L.length - 1) := ⟨_, rfl⟩
      have hA := (unhide HLie (L.length - 1) (by omega)).below hbel hb
      rw [← hx] at hA
      have c0 : wr.cell? ⟨b, off + (L.length - 1) * 4, none⟩ = some (.int .i64 x.op) := hA.1
      obtain ⟨n, hn⟩ : ∃ n, L.length = n + 1 := ⟨L.length - 1, by omega⟩
      have he := hide (show codedE p L r v s = if x.op ≠ 7 ∧ x.op ≠ 10 then (9, (L.length : Int) - 1) else (0, 0) by
        rw [unhide HC, Nat.sub_self, hx]; rfl)
      have Hn := hide hn
      rw [show L.length - 1 = n by omega] at c0
      rw [hn] at he hn1 hlt ⊢
      clear hA hx hn HC
      by_cases h7 : x.op = 7
      · have h7' : (x.op != 7) = false := by rw [bne_eq_false_iff_eq]; exact h7
        have he' := hide (show codedE p L r v s = (0, 0) by rw [unhide he, if_neg (fun h => h.1 h7)])
        rw [h7] at c0
        clear h7 h7' he
        go_wp2
        go_ret2
        exact ⟨ret2 (by rw [unhide he']) (by rw [unhide he']), hbel⟩
      by_cases h10 : x.op = 10
      · have he' := hide (show codedE p L r v s = (0, 0) by rw [unhide he, if_neg (fun h => h.2 h10)])
        rw [h10] at c0
        clear h7 h10 he
        go_wp2
        go_ret2
        exact ⟨ret2 (by rw [unhide he']) (by rw [unhide he']), hbel⟩
      · have he' := hide (show codedE p L r v s = (9, (n : Int)) by rw [unhide he, if_pos ⟨h7, h10⟩]; congr 1; omega)
        have h7' : (x.op != 7) = true := by rw [bne_iff_ne]; exact h7
        have h10' : (x.op != 10) = true := by rw [bne_iff_ne]; exact h10
        clear he
        go_wp2
        go_ret2
        exact ⟨ret2 (by rw [unhide he']) (by rw [unhide he']), hbel⟩
    obtain ⟨x, hx⟩ : ∃ x, x = inAt L k := ⟨_, rfl⟩
    have hA := (unhide HLie k hlt).below hbel hb
    rw [← hx] at hA
    obtain ⟨c0, c1, c2, c3⟩ := hA
    have HX := hide hx
    clear hx
    by_cases ho : 0 ≤ x.op ∧ x.op < 17
    case neg =>
      have he := hide (show codedE p L r v s = (2, (k : Int)) by
        have e : insE p (inAt L k) r L.length v s = 2 := by
          rw [← unhide HX]; unfold insE; rw [if_pos (fun h => ho ⟨h.1, h.2.1⟩)]
        rw [unhide HC, coded_here hlt (by rw [e]; decide), e])
      rcases (show x.op < 0 ∨ (0 ≤ x.op ∧ 17 ≤ x.op) by omega) with h | ⟨h, h'⟩
      all_goals
        clear ho
        go_wp2
        go_ret2
        exact ⟨ret2 (by rw [unhide he]) (by rw [unhide he]), hbel.alloc hbel.size _⟩
    obtain ⟨o, hop⟩ : ∃ o : Nat, x.op = (o : Int) := ⟨x.op.toNat, by omega⟩
    have hoo : o < 17 := by omega
    have HO := hide hop
    rw [hop] at c0
    clear hop ho
    have hgr : g < wr.heap.size := Nat.lt_of_lt_of_le hgl hB
    have q : ∀ O, (wr.alloc O).cell? ⟨g, o, none⟩ = some (.bool (opB p o)) := fun O => (((Below.refl wr.heap.size wr).alloc (Nat.le_refl _) O).cell (p := ⟨g, o, none⟩) hgr).trans ((hbel.cell (p := ⟨g, o, none⟩) hgl).trans (ops_cell (unhide HG) o hoo))
    have ho1 : (o : Int) < 17 := by omega
    cases hq : opB p o
    · rw [hq] at q
      have he := hide (show codedE p L r v s = (2, (k : Int)) by
        have e : insE p (inAt L k) r L.length v s = 2 := by
          rw [← unhide HX]; unfold insE; rw [if_pos (fun h => by have := h.2.2; rw [unhide HO, Int.toNat_natCast, hq] at this; cases this)]
        rw [unhide HC, coded_here hlt (by rw [e]; decide), e])
      clear hq
      go_wp2
      go_ret2
      exact ⟨ret2 (by rw [unhide he]) (by rw [unhide he]), hbel.alloc hbel.size _⟩
    · rw [hq] at q
      have HQ := hide hq
      clear hq
      obtain ⟨la, lb, lc, hf, ea, eb, ec, La, Lb, Lc⟩ := form_abc o hoo
      have F := hide (fun w => form_any o hoo w)
      rw [hf] at F
      have HEa := hide ea
      have HEb := hide eb
      have HEc := hide ec
      clear hf ea eb ec
      go_wp2_with fail
      refine (unhide F _).mono ?_
      rintro e w1 ⟨rfl, hb1⟩
      have y1 : w1.cell? ⟨wr.heap.size, 1, none⟩ = some (.int .i64 x.d) := (hb1.cell (by simp)).trans (by rw [World.cell?_alloc_at (hn := rfl)]; rfl)
      have y2 : w1.cell? ⟨wr.heap.size, 2, none⟩ = some (.int .i64 x.a) := (hb1.cell (by simp)).trans (by rw [World.cell?_alloc_at (hn := rfl)]; rfl)
      have y3 : w1.cell? ⟨wr.heap.size, 3, none⟩ = some (.int .i64 x.b) := (hb1.cell (by simp)).trans (by rw [World.cell?_alloc_at (hn := rfl)]; rfl)
      have hbw : Below w.heap.size w w1 := (hbel.alloc hbel.size _).trans (hb1.mono (by simp; try omega))
      have hbx := hbw.alloc hbw.size (.cells #[.int .i64 x.d, .int .i64 x.a, .int .i64 x.b] 3)
      have La' : Letter (la.toNat : Int) := by rw [unhide HEa]; exact La
      have Lb' : Letter (lb.toNat : Int) := by rw [unhide HEb]; exact Lb
      have Lc' : Letter (lc.toNat : Int) := by rw [unhide HEc]; exact Lc
      have HI : Hid (insE p (inAt L k) r L.length v s = if fieldE (la.toNat : Int) x.d r (L.length : Int) v s ≠ 0 then fieldE (la.toNat : Int) x.d r (L.length : Int) v s else if fieldE (lb.toNat : Int) x.a r (L.length : Int) v s ≠ 0 then fieldE (lb.toNat : Int) x.a r (L.length : Int) v s else fieldE (lc.toNat : Int) x.b r (L.length : Int) v s) := by
        unfold Hid
        rw [← unhide HX, insE_good (unhide HO) hoo (unhide HQ), unhide HEa, unhide HEb, unhide HEc]
      obtain ⟨f0, h0⟩ : ∃ f, f = fieldE (la.toNat : Int) x.d r (L.length : Int) v s := ⟨_, rfl⟩
      obtain ⟨f1, h1⟩ : ∃ f, f = fieldE (lb.toNat : Int) x.a r (L.length : Int) v s := ⟨_, rfl⟩
      obtain ⟨f2, h2⟩ : ∃ f, f = fieldE (lc.toNat : Int) x.b r (L.length : Int) v s := ⟨_, rfl⟩
      rw [← h0, ← h1, ← h2] at HI
      have KA := hide (fun w => field_any (la.toNat : Int) x.d r (L.length : Int) v s w La')
      have KB := hide (fun w => field_any (lb.toNat : Int) x.a r (L.length : Int) v s w Lb')
      have KC := hide (fun w => field_any (lc.toNat : Int) x.b r (L.length : Int) v s w Lc')
      rw [← h0] at KA
      rw [← h1] at KB
      rw [← h2] at KC
      have n0 : 0 ≤ f0 := by rw [h0]; exact fieldE_nonneg _ _ _ _ _ _
      have n1 : 0 ≤ f1 := by rw [h1]; exact fieldE_nonneg _ _ _ _ _ _
      have n2 : 0 ≤ f2 := by rw [h2]; exact fieldE_nonneg _ _ _ _ _ _
      have HBX := hide hbx
      clear La Lb Lc La' Lb' Lc' hb1 q c0 c1 c2 c3 hbx h0 h1 h2
      rcases (show f0 = 0 ∨ 1 ≤ f0 by omega) with rfl | e0
      case inr =>
        have ec := (show insE p (inAt L k) r L.length v s = f0 by rw [unhide HI]; rw [if_pos (by omega)])
        have he := hide (show codedE p L r v s = (f0, (k : Int)) by
          rw [unhide HC, coded_here hlt (by rw [ec]; omega), ec])
        clear HI ec
        go_wp2_with fail
        refine wp_loop_rounds 1 ?_; rw [rounds_succ]
        go_wp2_with fail
        go_quiet ((go_at_call 82; exact Calls.quiet_of_same (unhide KA _)))
        go_wp2
        go_ret2
        exact ⟨ret2 (by rw [unhide he]) (by rw [unhide he]), below_drewN (unhide HBX) _⟩
      rcases (show f1 = 0 ∨ 1 ≤ f1 by omega) with rfl | e1
      case inr =>
        have ec := (show insE p (inAt L k) r L.length v s = f1 by rw [unhide HI]; rw [if_neg (fun h => h rfl), if_pos (by omega)])
        have he := hide (show codedE p L r v s = (f1, (k : Int)) by
          rw [unhide HC, coded_here hlt (by rw [ec]; omega), ec])
        clear HI ec
        go_wp2_with fail
        refine wp_loop_rounds 2 ?_; rw [rounds_succ]
        go_wp2_with fail
        go_quiet ((go_at_call 82; exact Calls.quiet_of_same (unhide KA _)))
        go_wp2
        obtain ⟨w2, hw2⟩ : ∃ w2, w2 = (w1.alloc (.cells #[.int .i64 x.d, .int .i64 x.a, .int .i64 x.b] 3)).drewN nq := ⟨_, rfl⟩
        rw [← hw2]
        have s1 : w2.cell? ⟨w1.heap.size, 1, none⟩ = some (.int .i64 x.a) := by rw [hw2, World.cell?_drewN, World.cell?_alloc_at (hn := rfl)]; rfl
        have s2 : w2.cell? ⟨w1.heap.size, 2, none⟩ = some (.int .i64 x.b) := by rw [hw2, World.cell?_drewN, World.cell?_alloc_at (hn := rfl)]; rfl
        have HB2 : Hid (Below w.heap.size w w2) := by rw [hw2]; exact below_drewN (unhide HBX) _
        clear hw2 HBX
        rw [rounds_succ]
        go_wp2_with fail
        go_quiet ((go_at_call 82; exact Calls.quiet_of_same (unhide KB _)))
        go_wp2
        go_ret2
        exact ⟨ret2 (by rw [unhide he]) (by rw [unhide he]), below_drewN (unhide HB2) _⟩
      rcases (show f2 = 0 ∨ 1 ≤ f2 by omega) with rfl | e2
      case inr =>
        have ec := (show insE p (inAt L k) r L.length v s = f2 by rw [unhide HI]; rw [if_neg (fun h => h rfl), if_neg (fun h => h rfl)])
        have he := hide (show codedE p L r v s = (f2, (k : Int)) by
          rw [unhide HC, coded_here hlt (by rw [ec]; omega), ec])
        clear HI ec
        go_wp2_with fail
        refine wp_loop_rounds 3 ?_; rw [rounds_succ]
        go_wp2_with fail
        go_quiet ((go_at_call 82; exact Calls.quiet_of_same (unhide KA _)))
        go_wp2
        obtain ⟨w2, hw2⟩ : ∃ w2, w2 = (w1.alloc (.cells #[.int .i64 x.d, .int .i64 x.a, .int .i64 x.b] 3)).drewN nq := ⟨_, rfl⟩
        rw [← hw2]
        have s1 : w2.cell? ⟨w1.heap.size, 1, none⟩ = some (.int .i64 x.a) := by rw [hw2, World.cell?_drewN, World.cell?_alloc_at (hn := rfl)]; rfl
        have s2 : w2.cell? ⟨w1.heap.size, 2, none⟩ = some (.int .i64 x.b) := by rw [hw2, World.cell?_drewN, World.cell?_alloc_at (hn := rfl)]; rfl
        have HB2 : Hid (Below w.heap.size w w2) := by rw [hw2]; exact below_drewN (unhide HBX) _
        clear hw2 HBX
        rw [rounds_succ]
        go_wp2_with fail
        go_quiet ((go_at_call 82; exact Calls.quiet_of_same (unhide KB _)))
        go_wp2
        obtain ⟨w3, hw3⟩ : ∃ w3, w3 = w2.drewN nq := ⟨_, rfl⟩
        rw [← hw3]
        have t2 : w3.cell? ⟨w1.heap.size, 2, none⟩ = some (.int .i64 x.b) := by rw [hw3, World.cell?_drewN]; exact s2
        have HB3 : Hid (Below w.heap.size w w3) := by rw [hw3]; exact below_drewN (unhide HB2) _
        clear hw3 HB2 s1 s2
        rw [rounds_succ]
        go_wp2_with fail
        go_quiet ((go_at_call 82; exact Calls.quiet_of_same (unhide KC _)))
        go_wp2
        go_ret2
        exact ⟨ret2 (by rw [unhide he]) (by rw [unhide he]), below_drewN (unhide HB3) _⟩
      have ec := (show insE p (inAt L k) r L.length v s = 0 by rw [unhide HI, if_neg (fun h => h rfl), if_neg (fun h => h rfl)])
      have hn := hide (show codedE p L r v s = codedFrom p L r v s (k + 1) (L.length - (k + 1)) by rw [unhide HC, coded_on hlt ec])
      clear HI ec
      go_wp2_with fail
      refine wp_loop_rounds 4 ?_; rw [rounds_succ]
      go_wp2_with fail
      go_quiet ((go_at_call 82; exact Calls.quiet_of_same (unhide KA _)))
      go_wp2
      obtain ⟨w2, hw2⟩ : ∃ w2, w2 = (w1.alloc (.cells #[.int .i64 x.d, .int .i64 x.a, .int .i64 x.b] 3)).drewN nq := ⟨_, rfl⟩
      rw [← hw2]
      have s1 : w2.cell? ⟨w1.heap.size, 1, none⟩ = some (.int .i64 x.a) := by rw [hw2, World.cell?_drewN, World.cell?_alloc_at (hn := rfl)]; rfl
      have s2 : w2.cell? ⟨w1.heap.size, 2, none⟩ = some (.int .i64 x.b) := by rw [hw2, World.cell?_drewN, World.cell?_alloc_at (hn := rfl)]; rfl
      have HB2 : Hid (Below w.heap.size w w2) := by rw [hw2]; exact below_drewN (unhide HBX) _
      clear hw2 HBX
      rw [rounds_succ]
      go_wp2_with fail
      go_quiet ((go_at_call 82; exact Calls.quiet_of_same (unhide KB _)))
      go_wp2
      obtain ⟨w3, hw3⟩ : ∃ w3, w3 = w2.drewN nq := ⟨_, rfl⟩
      rw [← hw3]
      have t2 : w3.cell? ⟨w1.heap.size, 2, none⟩ = some (.int .i64 x.b) := by rw [hw3, World.cell?_drewN]; exact s2
      have HB3 : Hid (Below w.heap.size w w3) := by rw [hw3]; exact below_drewN (unhide HB2) _
      clear hw3 HB2 s1 s2
      rw [rounds_succ]
      go_wp2_with fail
      go_quiet ((go_at_call 82; exact Calls.quiet_of_same (unhide KC _)))
      go_wp2
      rw [rounds_succ]
      go_wp2
      go_roundw
      case rel => exact ⟨k + 1, by omega, by go_num, unhide hn, below_drewN (unhide HB3) _⟩
      case measure => simp [intOf]; omega
end Go.Proofs.YtoepcplbpochpaaDoor

/-
  What lodgeref.CheckProg computes: the error of a program, and its place.
-/
namespace Go.Proofs.YtoepcplbpochpaaDoor
open Go.RowKit

set_option maxRecDepth 100000 in
set_option maxHeartbeats 2000000 in
theorem checkProg_good (P R V : Int) (L : List In4) (ao : Option Addr) (cap : Nat) (w : World) (hH : HeldIns w ao L) (hs : ¬ SizeBad P R V L.length) :
    Calls Tryd.prog 12 #[.agg #[.int .i64 P, .int .i64 R, .int .i64 V, .slice ao L.length cap]] w fun e w' =>
      e = .returned (.tuple #[.int .i64 (progE P R V L).1, .int .i64 (progE P R V L).2]) ∧ Below w.heap.size w w' := by
  have he := hide (progE_good (L := L) hs)
  unfold SizeBad at hs
  obtain ⟨g1, g2, g3, g4, g5, g6, g7, g8, g9⟩ : 1 ≤ R ∧ R ≤ 12 ∧ 0 ≤ P ∧ P ≤ 4 ∧ P ≤ R ∧ 0 ≤ V ∧ V ≤ 4 ∧ 1 ≤ L.length ∧ L.length ≤ 40 := by omega
  obtain ⟨b, off, rfl, hb, hL⟩ : ∃ b off, ao = some ⟨b, off, none⟩ ∧ b < w.heap.size ∧ LieI w b off L := by
    rcases hH with h | h
    · subst h; exact absurd g8 (by simp)
    · exact h
  clear hs hH
  have HL := hide hL
  clear hL
  go_enter Tryd.func12, Tryd.ntmps12
  go_wp2_with fail
  obtain ⟨w1, hw1⟩ : ∃ w1, w1 = w.alloc (.cells #[.int .i64 P, .int .i64 R, .int .i64 V, .slice (some ⟨b, off, none⟩) L.length cap] 24) := ⟨_, rfl⟩
  rw [← hw1]
  have p1 : w1.cell? ⟨w.heap.size, 1, none⟩ = some (.int .i64 R) := by rw [hw1, World.cell?_alloc_at (hn := rfl)]; rfl
  have p2 : w1.cell? ⟨w.heap.size, 2, none⟩ = some (.int .i64 V) := by rw [hw1, World.cell?_alloc_at (hn := rfl)]; rfl
  have p3 : w1.cell? ⟨w.heap.size, 3, none⟩ = some (.slice (some ⟨b, off, none⟩) L.length cap) := by rw [hw1, World.cell?_alloc_at (hn := rfl)]; rfl
  have hbel : Below w.heap.size w w1 := by rw [hw1]; exact (Below.refl _ _).alloc (Nat.le_refl _) _
  have hz : w.heap.size < w1.heap.size := by rw [hw1]; simp
  clear hw1
  go_region_held3 (fun w' => w'.cell? ⟨w.heap.size, 1, none⟩ = some (.int .i64 R) ∧ w'.cell? ⟨w.heap.size, 2, none⟩ = some (.int .i64 V) ∧ w'.cell? ⟨w.heap.size, 3, none⟩ = some (.slice (some ⟨b, off, none⟩) L.length cap)) (simp [*])
    (first
      | (go_at_call 44; refine (ops_any true _).mono ?_; rintro e w2 ⟨rfl, hw2⟩; have hb2 : Below w1.heap.size w1.drew w2 := (by rw [hw2]; exact (Below.refl w1.heap.size w1.drew).alloc (Nat.le_refl _) _); have hs2 : w1.heap.size ≤ w2.heap.size := hb2.size; have hg2 : w2.heap[w1.heap.size]? = some (.cells (opsA true) 4 (0, 0)) := (by rw [hw2]; exact Array.getElem?_push_size); have q1 := (hb2.cell (p := ⟨w.heap.size, 1, none⟩) hz).trans p1; have q2 := (hb2.cell (p := ⟨w.heap.size, 2, none⟩) hz).trans p2; have q3 := (hb2.cell (p := ⟨w.heap.size, 3, none⟩) hz).trans p3; have HB2 : Hid (Below w.heap.size w w2) := hide ((hbel.drew).trans (hb2.mono (Nat.le_of_lt hz))); have HG2 := hide hg2; clear hw2 hb2 hg2)
      | (go_at_call 43; refine (coded_any true L b off cap w1.heap.size R V 0 _ ?_ ?_ ?_ ?_ ?_).mono ?_; exact (unhide HL).below (unhide HB2) hb; exact Nat.lt_of_lt_of_le hb (unhide HB2).size; exact unhide HG2; omega; omega; rintro e w3 ⟨rfl, hb3⟩; have HB3 : Hid (Below w.heap.size w w3) := hide ((unhide HB2).trans (hb3.mono (unhide HB2).size)); have hz3 : w.heap.size < w2.heap.size := Nat.lt_of_lt_of_le hz hs2; have r1 := (hb3.cell (p := ⟨w.heap.size, 1, none⟩) hz3).trans q1; have r2 := (hb3.cell (p := ⟨w.heap.size, 2, none⟩) hz3).trans q2; have r3 := (hb3.cell (p := ⟨w.heap.size, 3, none⟩) hz3).trans q3; clear hb3))
  go_wp2
  go_ret2
  exact ⟨ret2 (by rw [unhide he]) (by rw [unhide he]), unhide (by assumption)⟩

set_option maxRecDepth 100000 in
set_option maxHeartbeats 2000000 in
theorem checkProg_any (P R V : Int) (L : List In4) (ao : Option Addr) (cap : Nat) (w : World) (hH : HeldIns w ao L) (hn : L.length ≤ 9223372036854775807) :
    Calls Tryd.prog 12 #[.agg #[.int .i64 P, .int .i64 R, .int .i64 V, .slice ao L.length cap]] w fun e w' =>
      e = .returned (.tuple #[.int .i64 (progE P R V L).1, .int .i64 (progE P R V L).2]) ∧ Below w.heap.size w w' := by
  by_cases hs : SizeBad P R V L.length
  · have he := hide (progE_bad (L := L) hs)
    have hcases : R < 1 ∨ (1 ≤ R ∧ 12 < R) ∨ (1 ≤ R ∧ R ≤ 12 ∧ P < 0) ∨ (1 ≤ R ∧ R ≤ 12 ∧ 0 ≤ P ∧ 4 < P) ∨ (1 ≤ R ∧ R ≤ 12 ∧ 0 ≤ P ∧ P ≤ 4 ∧ R < P) ∨ (1 ≤ R ∧ R ≤ 12 ∧ 0 ≤ P ∧ P ≤ 4 ∧ P ≤ R ∧ V < 0) ∨ (1 ≤ R ∧ R ≤ 12 ∧ 0 ≤ P ∧ P ≤ 4 ∧ P ≤ R ∧ 0 ≤ V ∧ 4 < V) ∨ (1 ≤ R ∧ R ≤ 12 ∧ 0 ≤ P ∧ P ≤ 4 ∧ P ≤ R ∧ 0 ≤ V ∧ V ≤ 4 ∧ L.length < 1) ∨ (1 ≤ R ∧ R ≤ 12 ∧ 0 ≤ P ∧ P ≤ 4 ∧ P ≤ R ∧ 0 ≤ V ∧ V ≤ 4 ∧ 1 ≤ L.length ∧ 40 < L.length) := by
      unfold SizeBad at hs; omega
    clear hs
    rcases hcases with h | ⟨g1, h⟩ | ⟨g1, g2, h⟩ | ⟨g1, g2, g3, h⟩ | ⟨g1, g2, g3, g4, h⟩ | ⟨g1, g2, g3, g4, g5, h⟩ | ⟨g1, g2, g3, g4, g5, g6, h⟩ | ⟨g1, g2, g3, g4, g5, g6, g7, h⟩ | ⟨g1, g2, g3, g4, g5, g6, g7, g8, h⟩
    all_goals
      go_enter Tryd.func12, Tryd.ntmps12
      go_wp2
      go_ret2
      exact ⟨ret2 (by rw [unhide he]) (by rw [unhide he]), (Below.refl _ _).alloc (Nat.le_refl _) _⟩
  · exact checkProg_good P R V L ao cap w hH hs
end Go.Proofs.YtoepcplbpochpaaDoor

/-
  What lodgeref.Get answers, at every string and place.
-/
namespace Go.Proofs.YtoepcplbpochpaaDoor
open Go.RowKit

theorem refput_yes (n : Int) (w : World) (h0 : 0 ≤ n) (h1 : n ≤ 2097151) :
    Calls Tryd.prog 117 #[.int .i64 n] w fun e w' => e = .returned (.tuple #[.string (numS n), .int .i64 0]) ∧ Below w.heap.size w w' := by
  have := refput_any n w
  rw [putR_yes h0 h1] at this
  exact this

set_option maxRecDepth 100000 in
set_option maxHeartbeats 1000000 in
theorem refget_a (s : ByteArray) (k : Nat) (w : World) (hs : s.size ≤ maxLen) (hi : (k : Int) ≤ 9223372036854775807) (hk : k < s.size) (a : ((s[k]).toNat : Int) < 128) :
    Calls Tryd.prog 92 #[.string s, .int .i64 k] w fun e w' => e = .returned (getR s k) ∧ Below w.heap.size w w' := by
  unfold maxLen at hs
  have ba : ((s[k]).toNat : Int) < 256 := byte_lt _
  have t1 := t1_yes hk a
  rw [getR_some (get_a hk a)]
  go_enter Tryd.func92, Tryd.ntmps92
  go_wp2
  refine wp_loop_rounds 1 ?_; rw [rounds_succ]
  go_wp2
  refine wp_loop_rounds 1 ?_; rw [rounds_succ]
  go_wp2_with fail
  refine (refput_yes _ _ (by omega) (by omega)).mono ?_
  rintro e w' ⟨rfl, hb⟩
  go_wp2_with fail
  go_ret3
  exact ⟨ret3 (by omega) (by omega), hb⟩

set_option maxRecDepth 100000 in
set_option maxHeartbeats 1000000 in
theorem refget_a_end (s : ByteArray) (k : Nat) (w : World) (hs : s.size ≤ maxLen) (hi : (k : Int) ≤ 9223372036854775807) (hk : k < s.size) (a : ¬ ((s[k]).toNat : Int) < 128) (hx : s.size ≤ k + 1) :
    Calls Tryd.prog 92 #[.string s, .int .i64 k] w fun e w' => e = .returned (getR s k) ∧ Below w.heap.size w w' := by
  unfold maxLen at hs
  have ba : ((s[k]).toNat : Int) < 256 := byte_lt _
  have t1 := t1_no (by omega) a
  rw [getR_none (get_a_end hk a hx)]
  go_enter Tryd.func92, Tryd.ntmps92
  go_wp2
  refine wp_loop_rounds 2 ?_; rw [rounds_succ]
  go_wp2
  refine wp_loop_rounds 1 ?_; rw [rounds_succ]
  go_wp2_with fail
  refine (refput_yes _ _ (by omega) (by omega)).mono ?_
  rintro e w1 ⟨rfl, hb1⟩
  go_wp2_with fail
  rw [rounds_succ]
  go_wp2
  go_ret3
  exact ⟨rfl, hb1⟩

set_option maxRecDepth 100000 in
set_option maxHeartbeats 1000000 in
theorem refget_b (s : ByteArray) (k : Nat) (w : World) (hs : s.size ≤ maxLen) (hi : (k : Int) ≤ 9223372036854775807) (hk : k + 1 < s.size) (a : ¬ ((s[k]).toNat : Int) < 128) (b : ((s[k + 1]).toNat : Int) < 128) (b' : ¬ ((s[k + 1]).toNat : Int) = 0) :
    Calls Tryd.prog 92 #[.string s, .int .i64 k] w fun e w' => e = .returned (getR s k) ∧ Below w.heap.size w w' := by
  unfold maxLen at hs
  have ba : ((s[k]).toNat : Int) < 256 := byte_lt _
  have bb : ((s[k + 1]).toNat : Int) < 256 := byte_lt _
  have t1 := t1_no (by omega) a
  have t2 := t2_yes hk (by omega)
  rw [getR_some (get_b hk a b b')]
  go_enter Tryd.func92, Tryd.ntmps92
  go_wp2
  refine wp_loop_rounds 2 ?_; rw [rounds_succ]
  go_wp2
  refine wp_loop_rounds 1 ?_; rw [rounds_succ]
  go_wp2_with fail
  refine (refput_yes _ _ (by omega) (by omega)).mono ?_
  rintro e w1 ⟨rfl, hb1⟩
  go_wp2_with fail
  rw [rounds_succ]
  go_wp2
  refine wp_loop_rounds 2 ?_; rw [rounds_succ]
  go_wp2
  rw [rounds_succ]
  go_wp2_with fail
  refine (refput_yes _ _ (by omega) (by omega)).mono ?_
  rintro e w2 ⟨rfl, hb2⟩
  go_wp2_with fail
  go_ret3
  exact ⟨ret3 (by omega) (by omega), (hb1.trans (hb2.mono hb1.size))⟩

set_option maxRecDepth 100000 in
set_option maxHeartbeats 1000000 in
theorem refget_b_end (s : ByteArray) (k : Nat) (w : World) (hs : s.size ≤ maxLen) (hi : (k : Int) ≤ 9223372036854775807) (hk : k + 1 < s.size) (a : ¬ ((s[k]).toNat : Int) < 128) (b : ¬ ((s[k + 1]).toNat : Int) < 128) (hx : s.size ≤ k + 1 + 1) :
    Calls Tryd.prog 92 #[.string s, .int .i64 k] w fun e w' => e = .returned (getR s k) ∧ Below w.heap.size w w' := by
  unfold maxLen at hs
  have ba : ((s[k]).toNat : Int) < 256 := byte_lt _
  have bb : ((s[k + 1]).toNat : Int) < 256 := byte_lt _
  have t1 := t1_no (by omega) a
  have t2 := t2_no (by omega : k + 1 < s.size) (by omega)
  rw [getR_none (get_b_end hk a b hx)]
  go_enter Tryd.func92, Tryd.ntmps92
  go_wp2
  refine wp_loop_rounds 3 ?_; rw [rounds_succ]
  go_wp2
  refine wp_loop_rounds 1 ?_; rw [rounds_succ]
  go_wp2_with fail
  refine (refput_yes _ _ (by omega) (by omega)).mono ?_
  rintro e w1 ⟨rfl, hb1⟩
  go_wp2_with fail
  rw [rounds_succ]
  go_wp2
  refine wp_loop_rounds 2 ?_; rw [rounds_succ]
  go_wp2
  rw [rounds_succ]
  go_wp2_with fail
  refine (refput_yes _ _ (by omega) (by omega)).mono ?_
  rintro e w2 ⟨rfl, hb2⟩
  go_wp2_with fail
  rw [rounds_succ]
  go_wp2
  go_ret3
  exact ⟨rfl, (hb1.trans (hb2.mono hb1.size))⟩

set_option maxRecDepth 100000 in
set_option maxHeartbeats 1000000 in
theorem refget_b_zero_end (s : ByteArray) (k : Nat) (w : World) (hs : s.size ≤ maxLen) (hi : (k : Int) ≤ 9223372036854775807) (hk : k + 1 < s.size) (a : ¬ ((s[k]).toNat : Int) < 128) (b : ((s[k + 1]).toNat : Int) = 0) (hx : s.size ≤ k + 1 + 1) :
    Calls Tryd.prog 92 #[.string s, .int .i64 k] w fun e w' => e = .returned (getR s k) ∧ Below w.heap.size w w' := by
  unfold maxLen at hs
  have ba : ((s[k]).toNat : Int) < 256 := byte_lt _
  have bb : ((s[k + 1]).toNat : Int) < 128 := by omega
  have t1 := t1_no (by omega) a
  have t2 := t2_no (by omega : k + 1 < s.size) (by omega)
  rw [getR_none (get_b_zero hk a b)]
  clear b
  go_enter Tryd.func92, Tryd.ntmps92
  go_wp2
  refine wp_loop_rounds 3 ?_; rw [rounds_succ]
  go_wp2
  refine wp_loop_rounds 1 ?_; rw [rounds_succ]
  go_wp2_with fail
  refine (refput_yes _ _ (by omega) (by omega)).mono ?_
  rintro e w1 ⟨rfl, hb1⟩
  go_wp2_with fail
  rw [rounds_succ]
  go_wp2
  refine wp_loop_rounds 2 ?_; rw [rounds_succ]
  go_wp2
  rw [rounds_succ]
  go_wp2_with fail
  refine (refput_yes _ _ (by omega) (by omega)).mono ?_
  rintro e w2 ⟨rfl, hb2⟩
  go_wp2_with fail
  rw [rounds_succ]
  go_wp2
  go_ret3
  exact ⟨rfl, (hb1.trans (hb2.mono hb1.size))⟩

end Go.Proofs.YtoepcplbpochpaaDoor

/-
  What lodgeref.Get answers where a third byte is looked at.
-/
namespace Go.Proofs.YtoepcplbpochpaaDoor
open Go.RowKit

set_option maxRecDepth 100000 in
set_option maxHeartbeats 1000000 in
theorem refget_c (s : ByteArray) (k : Nat) (w : World) (hs : s.size ≤ maxLen) (hi : (k : Int) ≤ 9223372036854775807) (hk : k + 1 + 1 < s.size) (a : ¬ ((s[k]).toNat : Int) < 128) (b : ¬ ((s[k + 1]).toNat : Int) < 128) (c : ((s[k + 2]).toNat : Int) < 128) (c' : ¬ ((s[k + 2]).toNat : Int) = 0) :
    Calls Tryd.prog 92 #[.string s, .int .i64 k] w fun e w' => e = .returned (getR s k) ∧ Below w.heap.size w w' := by
  unfold maxLen at hs
  have ba : ((s[k]).toNat : Int) < 256 := byte_lt _
  have bb : ((s[k + 1]).toNat : Int) < 256 := byte_lt _
  have bc : ((s[k + 2]).toNat : Int) < 256 := byte_lt _
  have t1 := t1_no (by omega) a
  have t2 := t2_no (by omega : k + 1 < s.size) (by omega)
  have t3 : ((numS (((s[k]).toNat : Int) % 128 + 128 * (((s[k + 1]).toNat : Int) % 128) + 128 * (128 * (((s[k + 2]).toNat : Int) % 128)))).toList == (s.extract k (k + 2 + 1)).toList) = true := t3_yes hk ⟨by omega, by omega, c, c'⟩
  have gc : getR s k = .tuple #[.int .i64 (((s[k]).toNat : Int) % 128 + ((s[k + 1]).toNat : Int) % 128 * 128 + ((s[k + 2]).toNat : Int) * 16384), .int .i64 (k + (3 : Nat)), .int .i64 0] := getR_some (get_c hk a b c c')
  rw [gc]
  clear gc
  go_enter Tryd.func92, Tryd.ntmps92
  go_wp2
  refine wp_loop_rounds 3 ?_; rw [rounds_succ]
  go_wp2
  refine wp_loop_rounds 1 ?_; rw [rounds_succ]
  go_wp2_with fail
  refine (refput_yes _ _ (by omega) (by omega)).mono ?_
  rintro e w1 ⟨rfl, hb1⟩
  go_wp2_with fail
  rw [rounds_succ]
  go_wp2
  refine wp_loop_rounds 2 ?_; rw [rounds_succ]
  go_wp2
  rw [rounds_succ]
  go_wp2_with fail
  refine (refput_yes _ _ (by omega) (by omega)).mono ?_
  rintro e w2 ⟨rfl, hb2⟩
  go_wp2_with fail
  rw [rounds_succ]
  go_wp2
  refine wp_loop_rounds 3 ?_; rw [rounds_succ]
  go_wp2
  rw [rounds_succ]
  go_wp2
  rw [rounds_succ]
  go_wp2_with fail
  refine (refput_yes _ _ (by omega) (by omega)).mono ?_
  rintro e w3 ⟨rfl, hb3⟩
  go_wp2_with fail
  go_ret3
  exact ⟨ret3 (by omega) (by omega), ((hb1.trans (hb2.mono hb1.size)).trans (hb3.mono (Nat.le_trans hb1.size hb2.size)))⟩

end Go.Proofs.YtoepcplbpochpaaDoor

/-
  What lodgeref.Get answers where a third byte is looked at.
-/
namespace Go.Proofs.YtoepcplbpochpaaDoor
open Go.RowKit

set_option maxRecDepth 100000 in
set_option maxHeartbeats 1000000 in
theorem refget_b_zero (s : ByteArray) (k : Nat) (w : World) (hs : s.size ≤ maxLen) (hi : (k : Int) ≤ 9223372036854775807) (hk : k + 1 + 1 < s.size) (a : ¬ ((s[k]).toNat : Int) < 128) (b : ((s[k + 1]).toNat : Int) = 0) :
    Calls Tryd.prog 92 #[.string s, .int .i64 k] w fun e w' => e = .returned (getR s k) ∧ Below w.heap.size w w' := by
  unfold maxLen at hs
  have ba : ((s[k]).toNat : Int) < 256 := byte_lt _
  have bb : ((s[k + 1]).toNat : Int) < 128 := by omega
  have bc : ((s[k + 2]).toNat : Int) < 256 := byte_lt _
  have t1 := t1_no (by omega) a
  have t2 := t2_no (by omega : k + 1 < s.size) (by omega)
  have t3 : ((numS (((s[k]).toNat : Int) % 128 + 128 * (((s[k + 1]).toNat : Int) % 128) + 128 * (128 * (((s[k + 2]).toNat : Int) % 128)))).toList == (s.extract k (k + 2 + 1)).toList) = false := t3_no hk (by omega)
  rw [getR_none (get_b_zero (by omega) a b)]
  clear b
  go_enter Tryd.func92, Tryd.ntmps92
  go_wp2
  refine wp_loop_rounds 4 ?_; rw [rounds_succ]
  go_wp2
  refine wp_loop_rounds 1 ?_; rw [rounds_succ]
  go_wp2_with fail
  refine (refput_yes _ _ (by omega) (by omega)).mono ?_
  rintro e w1 ⟨rfl, hb1⟩
  go_wp2_with fail
  rw [rounds_succ]
  go_wp2
  refine wp_loop_rounds 2 ?_; rw [rounds_succ]
  go_wp2
  rw [rounds_succ]
  go_wp2_with fail
  refine (refput_yes _ _ (by omega) (by omega)).mono ?_
  rintro e w2 ⟨rfl, hb2⟩
  go_wp2_with fail
  rw [rounds_succ]
  go_wp2
  refine wp_loop_rounds 3 ?_; rw [rounds_succ]
  go_wp2
  rw [rounds_succ]
  go_wp2
  rw [rounds_succ]
  go_wp2_with fail
  refine (refput_yes _ _ (by omega) (by omega)).mono ?_
  rintro e w3 ⟨rfl, hb3⟩
  go_wp2_with fail
  rw [rounds_succ]
  go_wp2
  go_ret3
  exact ⟨rfl, ((hb1.trans (hb2.mono hb1.size)).trans (hb3.mono (Nat.le_trans hb1.size hb2.size)))⟩

end Go.Proofs.YtoepcplbpochpaaDoor

/-
  What lodgeref.Get answers where a third byte is looked at.
-/
namespace Go.Proofs.YtoepcplbpochpaaDoor
open Go.RowKit

set_option maxRecDepth 100000 in
set_option maxHeartbeats 1000000 in
theorem refget_c_zero (s : ByteArray) (k : Nat) (w : World) (hs : s.size ≤ maxLen) (hi : (k : Int) ≤ 9223372036854775807) (hk : k + 1 + 1 < s.size) (a : ¬ ((s[k]).toNat : Int) < 128) (b : ¬ ((s[k + 1]).toNat : Int) < 128) (c : ((s[k + 2]).toNat : Int) = 0) :
    Calls Tryd.prog 92 #[.string s, .int .i64 k] w fun e w' => e = .returned (getR s k) ∧ Below w.heap.size w w' := by
  unfold maxLen at hs
  have ba : ((s[k]).toNat : Int) < 256 := byte_lt _
  have bb : ((s[k + 1]).toNat : Int) < 256 := byte_lt _
  have bc : ((s[k + 2]).toNat : Int) < 256 := byte_lt _
  have t1 := t1_no (by omega) a
  have t2 := t2_no (by omega : k + 1 < s.size) (by omega)
  have t3 : ((numS (((s[k]).toNat : Int) % 128 + 128 * (((s[k + 1]).toNat : Int) % 128) + 128 * (128 * (((s[k + 2]).toNat : Int) % 128)))).toList == (s.extract k (k + 2 + 1)).toList) = false := t3_no hk (fun p => p.2.2.2 c)
  rw [getR_none (get_c_zero hk a b c)]
  clear c
  go_enter Tryd.func92, Tryd.ntmps92
  go_wp2
  refine wp_loop_rounds 4 ?_; rw [rounds_succ]
  go_wp2
  refine wp_loop_rounds 1 ?_; rw [rounds_succ]
  go_wp2_with fail
  refine (refput_yes _ _ (by omega) (by omega)).mono ?_
  rintro e w1 ⟨rfl, hb1⟩
  go_wp2_with fail
  rw [rounds_succ]
  go_wp2
  refine wp_loop_rounds 2 ?_; rw [rounds_succ]
  go_wp2
  rw [rounds_succ]
  go_wp2_with fail
  refine (refput_yes _ _ (by omega) (by omega)).mono ?_
  rintro e w2 ⟨rfl, hb2⟩
  go_wp2_with fail
  rw [rounds_succ]
  go_wp2
  refine wp_loop_rounds 3 ?_; rw [rounds_succ]
  go_wp2
  rw [rounds_succ]
  go_wp2
  rw [rounds_succ]
  go_wp2_with fail
  refine (refput_yes _ _ (by omega) (by omega)).mono ?_
  rintro e w3 ⟨rfl, hb3⟩
  go_wp2_with fail
  rw [rounds_succ]
  go_wp2
  go_ret3
  exact ⟨rfl, ((hb1.trans (hb2.mono hb1.size)).trans (hb3.mono (Nat.le_trans hb1.size hb2.size)))⟩

end Go.Proofs.YtoepcplbpochpaaDoor

/-
  What lodgeref.Get answers where a third byte is looked at.
-/
namespace Go.Proofs.YtoepcplbpochpaaDoor
open Go.RowKit

set_option maxRecDepth 100000 in
set_option maxHeartbeats 1000000 in
theorem refget_c_no (s : ByteArray) (k : Nat) (w : World) (hs : s.size ≤ maxLen) (hi : (k : Int) ≤ 9223372036854775807) (hk : k + 1 + 1 < s.size) (a : ¬ ((s[k]).toNat : Int) < 128) (b : ¬ ((s[k + 1]).toNat : Int) < 128) (c : ¬ ((s[k + 2]).toNat : Int) < 128) :
    Calls Tryd.prog 92 #[.string s, .int .i64 k] w fun e w' => e = .returned (getR s k) ∧ Below w.heap.size w w' := by
  unfold maxLen at hs
  have ba : ((s[k]).toNat : Int) < 256 := byte_lt _
  have bb : ((s[k + 1]).toNat : Int) < 256 := byte_lt _
  have bc : ((s[k + 2]).toNat : Int) < 256 := byte_lt _
  have t1 := t1_no (by omega) a
  have t2 := t2_no (by omega : k + 1 < s.size) (by omega)
  have t3 : ((numS (((s[k]).toNat : Int) % 128 + 128 * (((s[k + 1]).toNat : Int) % 128) + 128 * (128 * (((s[k + 2]).toNat : Int) % 128)))).toList == (s.extract k (k + 2 + 1)).toList) = false := t3_no hk (fun p => c p.2.2.1)
  rw [getR_none (get_c_no hk a b c)]
  go_enter Tryd.func92, Tryd.ntmps92
  go_wp2
  refine wp_loop_rounds 4 ?_; rw [rounds_succ]
  go_wp2
  refine wp_loop_rounds 1 ?_; rw [rounds_succ]
  go_wp2_with fail
  refine (refput_yes _ _ (by omega) (by omega)).mono ?_
  rintro e w1 ⟨rfl, hb1⟩
  go_wp2_with fail
  rw [rounds_succ]
  go_wp2
  refine wp_loop_rounds 2 ?_; rw [rounds_succ]
  go_wp2
  rw [rounds_succ]
  go_wp2_with fail
  refine (refput_yes _ _ (by omega) (by omega)).mono ?_
  rintro e w2 ⟨rfl, hb2⟩
  go_wp2_with fail
  rw [rounds_succ]
  go_wp2
  refine wp_loop_rounds 3 ?_; rw [rounds_succ]
  go_wp2
  rw [rounds_succ]
  go_wp2
  rw [rounds_succ]
  go_wp2_with fail
  refine (refput_yes _ _ (by omega) (by omega)).mono ?_
  rintro e w3 ⟨rfl, hb3⟩
  go_wp2_with fail
  rw [rounds_succ]
  go_wp2
  go_ret3
  exact ⟨rfl, ((hb1.trans (hb2.mono hb1.size)).trans (hb3.mono (Nat.le_trans hb1.size hb2.size)))⟩

end Go.Proofs.YtoepcplbpochpaaDoor

/-
  What lodgeref.Get answers at every string and place.
-/
namespace Go.Proofs.YtoepcplbpochpaaDoor
open Go.RowKit

theorem refget_any (s : ByteArray) (i : Int) (w : World) (hs : s.size ≤ maxLen) (hi : i ≤ 9223372036854775807) :
    Calls Tryd.prog 92 #[.string s, .int .i64 i] w fun e w' => e = .returned (getR s i) ∧ Below w.heap.size w w' := by
  by_cases h0 : i < 0
  · rw [getR_neg h0]
    go_enter Tryd.func92, Tryd.ntmps92
    go_wp2
    go_ret3
    exact ⟨rfl, Below.refl _ _⟩
  obtain ⟨k, rfl⟩ := Int.eq_ofNat_of_zero_le (by omega : 0 ≤ i)
  by_cases hk : k < s.size
  case neg =>
    rw [getR_none (get_out (by omega))]
    unfold maxLen at hs
    go_enter Tryd.func92, Tryd.ntmps92
    go_wp2
    go_ret3
    exact ⟨rfl, Below.refl _ _⟩
  by_cases a : ((s[k]).toNat : Int) < 128
  · exact refget_a s k w hs hi hk a
  by_cases hk1 : k + 1 < s.size
  case neg => exact refget_a_end s k w hs hi hk a (by omega)
  by_cases b' : ((s[k + 1]).toNat : Int) = 0
  · by_cases hk2 : k + 1 + 1 < s.size
    · exact refget_b_zero s k w hs hi hk2 a b'
    · exact refget_b_zero_end s k w hs hi hk1 a b' (by omega)
  by_cases b : ((s[k + 1]).toNat : Int) < 128
  · exact refget_b s k w hs hi hk1 a b b'
  by_cases hk2 : k + 1 + 1 < s.size
  case neg => exact refget_b_end s k w hs hi hk1 a b (by omega)
  by_cases c' : ((s[k + 2]).toNat : Int) = 0
  · exact refget_c_zero s k w hs hi hk2 a b c'
  by_cases c : ((s[k + 2]).toNat : Int) < 128
  · exact refget_c s k w hs hi hk2 a b c c'
  · exact refget_c_no s k w hs hi hk2 a b c
end Go.Proofs.YtoepcplbpochpaaDoor

/-
  What lodgeref.Decode answers, of every string: just what leb.Decode answers.
-/
namespace Go.Proofs.YtoepcplbpochpaaDoor
open Go.RowKit

theorem rgives_or (s : ByteArray) (p : Nat) (hs : s.size ≤ maxLen) (hp : p ≤ s.size) :
    (∃ (x : Int) (q : Nat), Fine x ∧ D s p = encB x ++ D s q ∧ q ≤ s.size ∧
      ∀ w, Calls Tryd.prog 92 #[.string s, .int .i64 p] w fun e w' => e = .returned (.tuple #[.int .i64 x, .int .i64 q, .int .i64 0]) ∧ Below w.heap.size w w') ∨
    (getL (D s p) = none ∧ ∀ w, Calls Tryd.prog 92 #[.string s, .int .i64 p] w fun e w' => e = .returned (.tuple #[.int .i64 0, .int .i64 0, .int .i64 14]) ∧ Below w.heap.size w w') := by
  have hi : (p : Int) ≤ 9223372036854775807 := by unfold maxLen at hs; omega
  have G := fun w => refget_any s (p : Int) w hs hi
  cases h : getL (D s p) with
  | none =>
    refine .inr ⟨rfl, fun w => ?_⟩
    have := G w
    rw [getR_none (k := p) h] at this
    exact this
  | some xj =>
    obtain ⟨x, j⟩ := xj
    obtain ⟨hf, hl, hj⟩ := getL_sound _ _ _ h
    have hq : p + j ≤ s.size := by
      have := congrArg List.length hl
      rw [List.length_append, List.length_drop, D_len, ← hj] at this
      omega
    refine .inl ⟨x, p + j, hf, ?_, hq, fun w => ?_⟩
    · rw [hl]; congr 1; unfold D; rw [List.drop_drop]
    · have := G w
      rw [getR_some (k := p) h] at this
      exact this

/-- The ranges that a list of numbers is taken for. -/
def rgAt (xs : List Int) (i : Nat) : Rg := ⟨nth xs (5 * i + 1), nth xs (5 * i + 2), nth xs (5 * i + 2) + nth xs (5 * i + 3), nth xs (5 * i + 4), nth xs (5 * i + 5)⟩
def rgs (xs : List Int) (k : Nat) : List Rg := (List.range k).map (rgAt xs)
theorem rgs_succ (xs : List Int) (k : Nat) : rgs xs (k + 1) = rgs xs k ++ [rgAt xs k] := by unfold rgs; rw [List.range_succ, List.map_append]; rfl
theorem rgs_len (xs : List Int) (k : Nat) : (rgs xs k).length = k := by unfold rgs; simp

theorem nth_flat : ∀ (R : List Rg) (i : Nat), i < R.length → ∀ (c : Int) (j : Nat), j < 5 → nth (c :: R.flatMap nums) (5 * i + (j + 1)) = nth (nums (rg R i)) j
  | [], _, h, _, _, _ => absurd h (by simp)
  | r :: R, 0, _, c, j, hj => by
    unfold nth; rw [List.flatMap_cons, Nat.mul_zero, Nat.zero_add]
    simp only [List.getD_eq_getElem?_getD, List.getElem?_cons_succ]
    rw [List.getElem?_append_left (by exact hj)]; rfl
  | r :: R, i + 1, h, c, j, hj => by
    have ih := nth_flat R i (by simpa using h) c j hj
    unfold nth at *
    rw [List.flatMap_cons]
    simp only [List.getD_eq_getElem?_getD] at *
    rw [show 5 * (i + 1) + (j + 1) = (5 * i + j + 5) + 1 by omega, List.getElem?_cons_succ, List.getElem?_append_right (by show 5 ≤ _; omega), show 5 * i + j + 5 - (nums r).length = 5 * i + j by show _ - 5 = _; omega]
    rw [show 5 * i + (j + 1) = (5 * i + j) + 1 by omega, List.getElem?_cons_succ] at ih
    rw [ih]; rfl

theorem rgs_flat (R : List Rg) : rgs (flat R) R.length = R := by
  apply List.ext_getElem?
  intro i
  by_cases hi : i < R.length
  · have e : R[i]? = some (rg R i) := by unfold rg; rw [List.getD_eq_getElem?_getD, List.getElem?_eq_getElem hi]; rfl
    rw [e]; unfold rgs; rw [List.getElem?_map, List.getElem?_range hi]
    have k := nth_flat R i hi (R.length : Int)
    show some (rgAt (flat R) i) = _
    unfold rgAt flat
    rw [show 5 * i + 1 = 5 * i + (0 + 1) by omega, show 5 * i + 2 = 5 * i + (1 + 1) by omega, show 5 * i + 3 = 5 * i + (2 + 1) by omega, show 5 * i + 4 = 5 * i + (3 + 1) by omega, show 5 * i + 5 = 5 * i + (4 + 1) by omega,
      k 0 (by decide), k 1 (by decide), k 2 (by decide), k 3 (by decide), k 4 (by decide)]
    have e3 : nth (nums (rg R i)) 1 + nth (nums (rg R i)) 2 = (rg R i).t := by show (rg R i).f + ((rg R i).t - (rg R i).f) = _; omega
    rw [e3]; rfl
  · rw [List.getElem?_eq_none (by rw [rgs_len]; omega), List.getElem?_eq_none (by omega)]

/-- If the string holds a table, what was read is that table. -/
theorem read_all {s : ByteArray} {xs : List Int} {p : Nat} {R : List Rg} (hx : ∀ x ∈ xs, Fine x) (h : s.data.toList = bytesOf xs ++ D s p) (hend : s.size ≤ p ∨ 1002 ≤ xs.length) (ht : TabS s R) : xs = flat R := by
  have hl : (flat R).length ≤ 1001 := by have := isTab_len ht.1; unfold flat; rw [List.length_cons, flatMap_len]; omega
  have e : bytesOf (flat R) ++ [] = bytesOf xs ++ D s p := by rw [List.append_nil, ht.2, h]
  rcases hend with he | he
  · have hD : D s p = [] := List.length_eq_zero_iff.1 (by rw [D_len]; omega)
    rw [hD, List.append_nil, List.append_nil] at e
    exact (bytesOf_inj (flat_fine ht.1) hx e).symm
  · obtain ⟨zs, e1, e2⟩ := uniq _ _ _ _ (flat_fine ht.1) hx (by omega) e
    match zs with
    | [] => rw [e1, List.append_nil]
    | z :: zs =>
      have := getL_enc (hx z (by rw [e1]; simp)) (bytesOf zs ++ D s p)
      rw [← List.append_assoc, ← bytesOf_cons, ← e2] at this; cases this

theorem read_stuck {s : ByteArray} {xs : List Int} {p : Nat} (hx : ∀ x ∈ xs, Fine x) (h : s.data.toList = bytesOf xs ++ D s p) (hp : p < s.size) (hn : getL (D s p) = none) : ∀ R, ¬ TabS s R := by
  intro R ht
  have e : bytesOf xs ++ D s p = bytesOf (flat R) ++ [] := by rw [List.append_nil, ht.2, h]
  by_cases hl : xs.length < (flat R).length
  · exact none_short hx (flat_fine ht.1) hl e hn
  · obtain ⟨zs, e1, e2⟩ := uniq _ _ _ _ (flat_fine ht.1) hx (by omega) e.symm
    have := congrArg List.length e2
    rw [List.length_append, D_len] at this
    simp at this; omega

theorem rgs_tab {s : ByteArray} {xs : List Int} {p : Nat} {R : List Rg} {n : Nat} (hx : ∀ x ∈ xs, Fine x) (h : s.data.toList = bytesOf xs ++ D s p) (hend : s.size ≤ p ∨ 1002 ≤ xs.length) (hn : 5 * n + 5 ≥ xs.length ∧ 5 * n + 1 ≤ xs.length ∨ n = 0 ∧ xs.length ≤ 5) (ht : TabS s R) : rgs xs n = R := by
  have e := read_all hx h hend ht
  have hl : xs.length = 1 + 5 * R.length := by rw [e]; unfold flat; rw [List.length_cons, flatMap_len]; omega
  have : n = R.length := by omega
  rw [this, e, rgs_flat]

end Go.Proofs.YtoepcplbpochpaaDoor
