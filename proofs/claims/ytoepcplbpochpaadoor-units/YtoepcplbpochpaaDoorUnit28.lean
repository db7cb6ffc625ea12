/-
  What lodgeref.coded computes: the first error of code, and its place.
-/
import Derived.Test.YtoepcplbpochpaaDoorUnit27
import Derived.Deep.QuietTactic
import Derived.BigQuiet

namespace Go.Proofs.YtoepcplbpochpaaDoor
open Go.RowKit

theorem ops_cell {w : World} {g : Nat} {p : Bool} (h : w.heap[g]? = some (.cells (opsA p) 4 (0, 0))) (k : Nat) (hk : k < 17) : w.cell? ⟨g, k, none⟩ = some (.bool (opB p k)) := by
  rw [cell_of_row w g k _ 4 (0, 0) h]
  unfold opsA
  simp [hk]


set_option maxRecDepth 100000 in
set_option maxHeartbeats 2000000 in
theorem coded_any (p : Bool) (L : List In4) (b off cap g : Nat) (r v s : Int) (w : World) (hL : LieI w b off L) (hb : b < w.heap.size) (hg : w.heap[g]? = some (.cells (opsA p) 4 (0, 0))) (hn0 : 0 < L.length) (hn1 : L.length ≤ 9223372036854775807) :
    Calls Tryd.prog 43 #[.slice (some ⟨b, off, none⟩) L.length cap, .slice (some ⟨g, 0, none⟩) 17 17, .int .i64 r, .int .i64 v, .int .i64 s] w fun e w' =>
      e = .returned (.tuple #[.int .i64 (codedE p L r v s).1, .int .i64 (codedE p L r v s).2]) ∧ Below w.heap.size w w' := by
  have hgl : g < w.heap.size := (Array.getElem?_eq_some_iff.1 hg).1
  have HG := hide hg
  have HLie := hide hL
  clear hg hL
  go_enter Tryd.func43, Tryd.ntmps43
  go_wp2
  go_loopw [12] (fun i wr => ∃ k : Nat, k ≤ L.length ∧ i = .int .i64 k ∧ Hid (codedE p L r v s = codedFrom p L r v s k (L.length - k)) ∧ Below w.heap.size w wr) (fun i _ => L.length - (intOf i).toNat)
  case atStart => exact ⟨0, Nat.zero_le _, rfl, rfl, Below.refl _ _⟩
  case round =>
    obtain ⟨k, hk, rfl, HC, hbel⟩ := hrel
    have hB := hbel.size
    by_cases hlt : k < L.length
    case neg =>
      obtain rfl : k = L.length := by omega
      obtain ⟨x, hx⟩ : ∃ x, x = inAt L (L.length - 1) := ⟨_, rfl⟩
      have hA := (unhide HLie (L.length - 1) (by omega)).below hbel hb
      rw [← hx] at hA
      have c0 : wr.cell? ⟨b, off + (L.length - 1) * 4, none⟩ = some (.int .i64 x.op) := hA.1
      obtain ⟨n, hn⟩ : ∃ n, L.length = n + 1 := ⟨L.length - 1, by omega⟩
      have he := hide (show codedE p L r v s = if x.op ≠ 7 ∧ x.op ≠ 10 then (9, (L.length : Int) - 1) else (0, 0) by
        rw [unhide HC, Nat.sub_self, hx]; rfl)
      have Hn := hide hn
      rw [show L.length - 1 = n by omega] at c0
      rw [hn] at he hn1 hlt ⊢
      clear hA hx hn HC
      by_cases h7 : x.op = 7
      · have h7' : (x.op != 7) = false := by rw [bne_eq_false_iff_eq]; exact h7
        have he' := hide (show codedE p L r v s = (0, 0) by rw [unhide he, if_neg (fun h => h.1 h7)])
        rw [h7] at c0
        clear h7 h7' he
        go_wp2
        go_ret2
        exact ⟨ret2 (by rw [unhide he']) (by rw [unhide he']), hbel⟩
      by_cases h10 : x.op = 10
      · have he' := hide (show codedE p L r v s = (0, 0) by rw [unhide he, if_neg (fun h => h.2 h10)])
        rw [h10] at c0
        clear h7 h10 he
        go_wp2
        go_ret2
        exact ⟨ret2 (by rw [unhide he']) (by rw [unhide he']), hbel⟩
      · have he' := hide (show codedE p L r v s = (9, (n : Int)) by rw [unhide he, if_pos ⟨h7, h10⟩]; congr 1; omega)
        have h7' : (x.op != 7) = true := by rw [bne_iff_ne]; exact h7
        have h10' : (x.op != 10) = true := by rw [bne_iff_ne]; exact h10
        clear he
        go_wp2
        go_ret2
        exact ⟨ret2 (by rw [unhide he']) (by rw [unhide he']), hbel⟩
    obtain ⟨x, hx⟩ : ∃ x, x = inAt L k := ⟨_, rfl⟩
    have hA := (unhide HLie k hlt).below hbel hb
    rw [← hx] at hA
    obtain ⟨c0, c1, c2, c3⟩ := hA
    have HX := hide hx
    clear hx
    by_cases ho : 0 ≤ x.op ∧ x.op < 17
    case neg =>
      have he := hide (show codedE p L r v s = (2, (k : Int)) by
        have e : insE p (inAt L k) r L.length v s = 2 := by
          rw [← unhide HX]; unfold insE; rw [if_pos (fun h => ho ⟨h.1, h.2.1⟩)]
        rw [unhide HC, coded_here hlt (by rw [e]; decide), e])
      rcases (show x.op < 0 ∨ (0 ≤ x.op ∧ 17 ≤ x.op) by omega) with h | ⟨h, h'⟩
      all_goals
        clear ho
        go_wp2
        go_ret2
        exact ⟨ret2 (by rw [unhide he]) (by rw [unhide he]), hbel.alloc hbel.size _⟩
    obtain ⟨o, hop⟩ : ∃ o : Nat, x.op = (o : Int) := ⟨x.op.toNat, by omega⟩
    have hoo : o < 17 := by omega
    have HO := hide hop
    rw [hop] at c0
    clear hop ho
    have hgr : g < wr.heap.size := Nat.lt_of_lt_of_le hgl hB
    have q : ∀ O, (wr.alloc O).cell? ⟨g, o, none⟩ = some (.bool (opB p o)) := fun O => (((Below.refl wr.heap.size wr).alloc (Nat.le_refl _) O).cell (p := ⟨g, o, none⟩) hgr).trans ((hbel.cell (p := ⟨g, o, none⟩) hgl).trans (ops_cell (unhide HG) o hoo))
    have ho1 : (o : Int) < 17 := by omega
    cases hq : opB p o
    · rw [hq] at q
      have he := hide (show codedE p L r v s = (2, (k : Int)) by
        have e : insE p (inAt L k) r L.length v s = 2 := by
          rw [← unhide HX]; unfold insE; rw [if_pos (fun h => by have := h.2.2; rw [unhide HO, Int.toNat_natCast, hq] at this; cases this)]
        rw [unhide HC, coded_here hlt (by rw [e]; decide), e])
      clear hq
      go_wp2
      go_ret2
      exact ⟨ret2 (by rw [unhide he]) (by rw [unhide he]), hbel.alloc hbel.size _⟩
    · rw [hq] at q
      have HQ := hide hq
      clear hq
      obtain ⟨la, lb, lc, hf, ea, eb, ec, La, Lb, Lc⟩ := form_abc o hoo
      have F := hide (fun w => form_any o hoo w)
      rw [hf] at F
      have HEa := hide ea
      have HEb := hide eb
      have HEc := hide ec
      clear hf ea eb ec
      go_wp2_with fail
      refine (unhide F _).mono ?_
      rintro e w1 ⟨rfl, hb1⟩
      have y1 : w1.cell? ⟨wr.heap.size, 1, none⟩ = some (.int .i64 x.d) := (hb1.cell (by simp)).trans (by rw [World.cell?_alloc_at (hn := rfl)]; rfl)
      have y2 : w1.cell? ⟨wr.heap.size, 2, none⟩ = some (.int .i64 x.a) := (hb1.cell (by simp)).trans (by rw [World.cell?_alloc_at (hn := rfl)]; rfl)
      have y3 : w1.cell? ⟨wr.heap.size, 3, none⟩ = some (.int .i64 x.b) := (hb1.cell (by simp)).trans (by rw [World.cell?_alloc_at (hn := rfl)]; rfl)
      have hbw : Below w.heap.size w w1 := (hbel.alloc hbel.size _).trans (hb1.mono (by simp; try omega))
      have hbx := hbw.alloc hbw.size (.cells #[.int .i64 x.d, .int .i64 x.a, .int .i64 x.b] 3)
      have La' : Letter (la.toNat : Int) := by rw [unhide HEa]; exact La
      have Lb' : Letter (lb.toNat : Int) := by rw [unhide HEb]; exact Lb
      have Lc' : Letter (lc.toNat : Int) := by rw [unhide HEc]; exact Lc
      have HI : Hid (insE p (inAt L k) r L.length v s = if fieldE (la.toNat : Int) x.d r (L.length : Int) v s ≠ 0 then fieldE (la.toNat : Int) x.d r (L.length : Int) v s else if fieldE (lb.toNat : Int) x.a r (L.length : Int) v s ≠ 0 then fieldE (lb.toNat : Int) x.a r (L.length : Int) v s else fieldE (lc.toNat : Int) x.b r (L.length : Int) v s) := by
        unfold Hid
        rw [← unhide HX, insE_good (unhide HO) hoo (unhide HQ), unhide HEa, unhide HEb, unhide HEc]
      obtain ⟨f0, h0⟩ : ∃ f, f = fieldE (la.toNat : Int) x.d r (L.length : Int) v s := ⟨_, rfl⟩
      obtain ⟨f1, h1⟩ : ∃ f, f = fieldE (lb.toNat : Int) x.a r (L.length : Int) v s := ⟨_, rfl⟩
      obtain ⟨f2, h2⟩ : ∃ f, f = fieldE (lc.toNat : Int) x.b r (L.length : Int) v s := ⟨_, rfl⟩
      rw [← h0, ← h1, ← h2] at HI
      have KA := hide (fun w => field_any (la.toNat : Int) x.d r (L.length : Int) v s w La')
      have KB := hide (fun w => field_any (lb.toNat : Int) x.a r (L.length : Int) v s w Lb')
      have KC := hide (fun w => field_any (lc.toNat : Int) x.b r (L.length : Int) v s w Lc')
      rw [← h0] at KA
      rw [← h1] at KB
      rw [← h2] at KC
      have n0 : 0 ≤ f0 := by rw [h0]; exact fieldE_nonneg _ _ _ _ _ _
      have n1 : 0 ≤ f1 := by rw [h1]; exact fieldE_nonneg _ _ _ _ _ _
      have n2 : 0 ≤ f2 := by rw [h2]; exact fieldE_nonneg _ _ _ _ _ _
      have HBX := hide hbx
      clear La Lb Lc La' Lb' Lc' hb1 q c0 c1 c2 c3 hbx h0 h1 h2
      rcases (show f0 = 0 ∨ 1 ≤ f0 by omega) with rfl | e0
      case inr =>
        have ec := (show insE p (inAt L k) r L.length v s = f0 by rw [unhide HI]; rw [if_pos (by omega)])
        have he := hide (show codedE p L r v s = (f0, (k : Int)) by
          rw [unhide HC, coded_here hlt (by rw [ec]; omega), ec])
        clear HI ec
        go_wp2_with fail
        refine wp_loop_rounds 1 ?_; rw [rounds_succ]
        go_wp2_with fail
        go_quiet ((go_at_call 82; exact Calls.quiet_of_same (unhide KA _)))
        go_wp2
        go_ret2
        exact ⟨ret2 (by rw [unhide he]) (by rw [unhide he]), below_drewN (unhide HBX) _⟩
      rcases (show f1 = 0 ∨ 1 ≤ f1 by omega) with rfl | e1
      case inr =>
        have ec := (show insE p (inAt L k) r L.length v s = f1 by rw [unhide HI]; rw [if_neg (fun h => h rfl), if_pos (by omega)])
        have he := hide (show codedE p L r v s = (f1, (k : Int)) by
          rw [unhide HC, coded_here hlt (by rw [ec]; omega), ec])
        clear HI ec
        go_wp2_with fail
        refine wp_loop_rounds 2 ?_; rw [rounds_succ]
        go_wp2_with fail
        go_quiet ((go_at_call 82; exact Calls.quiet_of_same (unhide KA _)))
        go_wp2
        obtain ⟨w2, hw2⟩ : ∃ w2, w2 = (w1.alloc (.cells #[.int .i64 x.d, .int .i64 x.a, .int .i64 x.b] 3)).drewN nq := ⟨_, rfl⟩
        rw [← hw2]
        have s1 : w2.cell? ⟨w1.heap.size, 1, none⟩ = some (.int .i64 x.a) := by rw [hw2, World.cell?_drewN, World.cell?_alloc_at (hn := rfl)]; rfl
        have s2 : w2.cell? ⟨w1.heap.size, 2, none⟩ = some (.int .i64 x.b) := by rw [hw2, World.cell?_drewN, World.cell?_alloc_at (hn := rfl)]; rfl
        have HB2 : Hid (Below w.heap.size w w2) := by rw [hw2]; exact below_drewN (unhide HBX) _
        clear hw2 HBX
        rw [rounds_succ]
        go_wp2_with fail
        go_quiet ((go_at_call 82; exact Calls.quiet_of_same (unhide KB _)))
        go_wp2
        go_ret2
        exact ⟨ret2 (by rw [unhide he]) (by rw [unhide he]), below_drewN (unhide HB2) _⟩
      rcases (show f2 = 0 ∨ 1 ≤ f2 by omega) with rfl | e2
      case inr =>
        have ec := (show insE p (inAt L k) r L.length v s = f2 by rw [unhide HI]; rw [if_neg (fun h => h rfl), if_neg (fun h => h rfl)])
        have he := hide (show codedE p L r v s = (f2, (k : Int)) by
          rw [unhide HC, coded_here hlt (by rw [ec]; omega), ec])
        clear HI ec
        go_wp2_with fail
        refine wp_loop_rounds 3 ?_; rw [rounds_succ]
        go_wp2_with fail
        go_quiet ((go_at_call 82; exact Calls.quiet_of_same (unhide KA _)))
        go_wp2
        obtain ⟨w2, hw2⟩ : ∃ w2, w2 = (w1.alloc (.cells #[.int .i64 x.d, .int .i64 x.a, .int .i64 x.b] 3)).drewN nq := ⟨_, rfl⟩
        rw [← hw2]
        have s1 : w2.cell? ⟨w1.heap.size, 1, none⟩ = some (.int .i64 x.a) := by rw [hw2, World.cell?_drewN, World.cell?_alloc_at (hn := rfl)]; rfl
        have s2 : w2.cell? ⟨w1.heap.size, 2, none⟩ = some (.int .i64 x.b) := by rw [hw2, World.cell?_drewN, World.cell?_alloc_at (hn := rfl)]; rfl
        have HB2 : Hid (Below w.heap.size w w2) := by rw [hw2]; exact below_drewN (unhide HBX) _
        clear hw2 HBX
        rw [rounds_succ]
        go_wp2_with fail
        go_quiet ((go_at_call 82; exact Calls.quiet_of_same (unhide KB _)))
        go_wp2
        obtain ⟨w3, hw3⟩ : ∃ w3, w3 = w2.drewN nq := ⟨_, rfl⟩
        rw [← hw3]
        have t2 : w3.cell? ⟨w1.heap.size, 2, none⟩ = some (.int .i64 x.b) := by rw [hw3, World.cell?_drewN]; exact s2
        have HB3 : Hid (Below w.heap.size w w3) := by rw [hw3]; exact below_drewN (unhide HB2) _
        clear hw3 HB2 s1 s2
        rw [rounds_succ]
        go_wp2_with fail
        go_quiet ((go_at_call 82; exact Calls.quiet_of_same (unhide KC _)))
        go_wp2
        go_ret2
        exact ⟨ret2 (by rw [unhide he]) (by rw [unhide he]), below_drewN (unhide HB3) _⟩
      have ec := (show insE p (inAt L k) r L.length v s = 0 by rw [unhide HI, if_neg (fun h => h rfl), if_neg (fun h => h rfl)])
      have hn := hide (show codedE p L r v s = codedFrom p L r v s (k + 1) (L.length - (k + 1)) by rw [unhide HC, coded_on hlt ec])
      clear HI ec
      go_wp2_with fail
      refine wp_loop_rounds 4 ?_; rw [rounds_succ]
      go_wp2_with fail
      go_quiet ((go_at_call 82; exact Calls.quiet_of_same (unhide KA _)))
      go_wp2
      obtain ⟨w2, hw2⟩ : ∃ w2, w2 = (w1.alloc (.cells #[.int .i64 x.d, .int .i64 x.a, .int .i64 x.b] 3)).drewN nq := ⟨_, rfl⟩
      rw [← hw2]
      have s1 : w2.cell? ⟨w1.heap.size, 1, none⟩ = some (.int .i64 x.a) := by rw [hw2, World.cell?_drewN, World.cell?_alloc_at (hn := rfl)]; rfl
      have s2 : w2.cell? ⟨w1.heap.size, 2, none⟩ = some (.int .i64 x.b) := by rw [hw2, World.cell?_drewN, World.cell?_alloc_at (hn := rfl)]; rfl
      have HB2 : Hid (Below w.heap.size w w2) := by rw [hw2]; exact below_drewN (unhide HBX) _
      clear hw2 HBX
      rw [rounds_succ]
      go_wp2_with fail
      go_quiet ((go_at_call 82; exact Calls.quiet_of_same (unhide KB _)))
      go_wp2
      obtain ⟨w3, hw3⟩ : ∃ w3, w3 = w2.drewN nq := ⟨_, rfl⟩
      rw [← hw3]
      have t2 : w3.cell? ⟨w1.heap.size, 2, none⟩ = some (.int .i64 x.b) := by rw [hw3, World.cell?_drewN]; exact s2
      have HB3 : Hid (Below w.heap.size w w3) := by rw [hw3]; exact below_drewN (unhide HB2) _
      clear hw3 HB2 s1 s2
      rw [rounds_succ]
      go_wp2_with fail
      go_quiet ((go_at_call 82; exact Calls.quiet_of_same (unhide KC _)))
      go_wp2
      rw [rounds_succ]
      go_wp2
      go_roundw
      case rel => exact ⟨k + 1, by omega, by go_num, unhide hn, below_drewN (unhide HB3) _⟩
      case measure => simp [intOf]; omega
end Go.Proofs.YtoepcplbpochpaaDoor
