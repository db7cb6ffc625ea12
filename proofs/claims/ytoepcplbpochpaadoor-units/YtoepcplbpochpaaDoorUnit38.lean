/-
  One update of what is live: (*lodge.liveSets).update.
-/
import Derived.Test.YtoepcplbpochpaaDoorUnit36
import Derived.Test.YtoepcplbpochpaaDoorUnit37
import Derived.Test.YtoepcplbpochpaaDoorUnit15
import Derived.Deep.CutRange

namespace Go.Proofs.YtoepcplbpochpaaDoor
open Go.RowKit

/-- What is known of twelve registers at forty places. -/
def gridV (f : Nat → Nat → Bool) : Nat → Value := fun o => .bool (f (o / 12) (o % 12))
theorem grid_cell {w : World} {B : Nat} {f : Nat → Nat → Bool} (h : Rowd w B 108 480 (gridV f)) {i r : Nat} (hi : i < 40) (hr : r < 12) : w.cell? ⟨B, i * 12 + r, none⟩ = some (.bool (f i r)) := by
  rw [h.cell (by omega)]; unfold gridV; rw [show (i * 12 + r) / 12 = i by omega, show (i * 12 + r) % 12 = r by omega]
theorem grid_set {w : World} {B : Nat} {f g : Nat → Nat → Bool} (h : Rowd w B 108 480 (gridV f)) {i r : Nat} (hr : r < 12) {b : Bool} (hg : ∀ j q, j < 40 → q < 12 → g j q = if j = i ∧ q = r then b else f j q) :
    Rowd (w.setCell ⟨B, i * 12 + r, none⟩ (.bool b)) B 108 480 (gridV g) := by
  refine (h.set (i * 12 + r) (.bool b)).congr (fun o ho => ?_)
  unfold gridV
  rw [hg (o / 12) (o % 12) (by omega) (by omega)]
  by_cases e : o = i * 12 + r
  · rw [if_pos e, if_pos ⟨by omega, by omega⟩]
  · rw [if_neg e, if_neg (fun h => e (by omega))]

/-- An update that has come to the register r. -/
def upTo (L : List In4) (i : Nat) (f : Nat → Nat → Bool) (r : Nat) : Nat → Nat → Bool := fun j q => if q < r then upR L q i (fun j => f j q) j else f j q
theorem upTo_step (L : List In4) (i : Nat) (f : Nat → Nat → Bool) (r : Nat) (j q : Nat) : upTo L i f (r + 1) j q = if j = i ∧ q = r then (rdB (inAt L i) r || (laterB (inAt L i) i (fun j => f j r) && !wrB (inAt L i) r)) else upTo L i f r j q := by
  unfold upTo upR
  by_cases e : q = r
  · subst e
    rw [if_pos (by omega), if_neg (show ¬ q < q by omega)]
    by_cases ej : j = i
    · rw [if_pos ej, if_pos ⟨ej, rfl⟩]
    · rw [if_neg ej, if_neg (fun h => ej h.1)]
  · rw [if_neg (fun h : j = i ∧ q = r => e h.2)]
    by_cases h : q < r
    · rw [if_pos h, if_pos (show q < r + 1 by omega)]
    · rw [if_neg h, if_neg (show ¬ q < r + 1 by omega)]

/-- An operation that yields is taken first; its slot is named. -/
theorem take_put {P : Program} {md : Region.Mode} {ops : Array Oper} {Q : Exit → Act → World → Prop} {S : World → Prop} {i : Nat} {oi : Oper} {v : Value} {fuel : Nat} {listed : Array Bool} {a : Act} {w : World} (d : Option Tmp) (hi : ops[i]? = some oi) (hd : oi.dst = d)
    (hs : Region.noSelect ops = true) (hf : Region.free md ops listed i = true) (hr : (Region.ready md ops listed).contains i = true)
    (hQ : ∀ c a w, Q (.panic c) (a.put d v) w → Q (.panic c) a w) (hy : YieldsIf P ops S oi v a) (hS : S w)
    (h : wpAnyH P md ops Q S fuel (listed.setIfInBounds i true) (a.put d v) w) : wpAnyH P md ops Q S (fuel + 1) listed a w := by
  subst hd
  exact wpAnyH_take hi hs hf hr hQ hy hS h

/-- What an update leaves behind. -/
def UpPost (w : World) (B : Nat) (f : Nat → Nat → Bool) (e : Ending) (w' : World) : Prop :=
  e = .returned (.tuple #[]) ∧ Rowd w' B 108 480 (gridV f) ∧ Keep (fun k => k = B) w w'

set_option maxRecDepth 100000 in
set_option maxHeartbeats 8000000 in
theorem update_any (L : List In4) (i : Nat) (hi : i < 40) (h1 : nx1 (inAt L i) i = -1 ∨ (0 ≤ nx1 (inAt L i) i ∧ nx1 (inAt L i) i < 40)) (h2 : nx2 (inAt L i) i = -1 ∨ (0 ≤ nx2 (inAt L i) i ∧ nx2 (inAt L i) i < 40))
    (B : Nat) (f : Nat → Nat → Bool) (w : World) (hB : Rowd w B 108 480 (gridV f)) :
    Calls Tryd.prog 95 #[.pointer (some ⟨B, 0, none⟩), .agg #[.int .i64 (inAt L i).op, .int .i64 (inAt L i).d, .int .i64 (inAt L i).a, .int .i64 (inAt L i).b], .int .i64 i] w (UpPost w B (upTo L i f 12)) := by
  have KN := hide (nextOf_any (inAt L i) i (by omega))
  have KR := hide (rdB_any (inAt L i))
  have KW := hide (wrB_any (inAt L i))
  have HST := hide (upTo_step L i f)
  have HLT := hide (show ∀ r, laterB (inAt L i) i (fun j => f j r) = ((nx1 (inAt L i) i != -1 && f (nx1 (inAt L i) i).toNat r) || (nx2 (inAt L i) i != -1 && f (nx2 (inAt L i) i).toNat r)) from fun _ => rfl)
  have HOL := hide (show ∀ r j, upTo L i f r j r = f j r from fun r j => by unfold upTo; rw [if_neg (by omega)])
  obtain ⟨a, ha⟩ : ∃ a, a = nx1 (inAt L i) i := ⟨_, rfl⟩
  obtain ⟨b, hb⟩ : ∃ b, b = nx2 (inAt L i) i := ⟨_, rfl⟩
  rw [← ha] at h1 HLT KN
  rw [← hb] at h2 HLT KN
  have HB := hide hB
  obtain ⟨x, hx⟩ : ∃ x, x = inAt L i := ⟨_, rfl⟩
  rw [← hx] at KR KW HST HLT KN ⊢
  clear ha hb hx hB
  obtain ⟨w1, hw1, hq1, HB1, hz1⟩ := box4 w x
  have HW1 := hide hw1
  have hne : w.heap.size ≠ B := by have := (unhide HB).lt; omega
  have HG1 : Hid (Rowd w1 B 108 480 (gridV f)) := (unhide HB).below (unhide HB1)
  have HK1 : Hid (Keep (fun k => k = B) w w1) := Keep.of_below (unhide HB1) _
  have HQ1 := hide hq1
  obtain ⟨q0, q1, q2, q3⟩ := hq1
  clear hw1 HB HB1
  go_enter Tryd.func95, Tryd.ntmps95
  go_wp2_with fail
  rw [← unhide HW1]
  go_wp2_with fail
  refine (unhide KN w1).mono ?_
  rintro e w2 ⟨rfl, hb2⟩
  have HQ2 : Hid (At4 w2 w.heap.size 0 x) := (unhide HQ1).below hb2 hz1
  have HG2 : Hid (Rowd w2 B 108 480 (gridV f)) := (unhide HG1).below hb2
  have HK2 : Hid (Keep (fun k => k = B) w w2) := (unhide HK1).trans (Keep.of_below hb2 (fun _ => False)) (fun _ _ h => h.elim)
  have hz2 : w.heap.size < w2.heap.size := Nat.lt_of_lt_of_le hz1 hb2.size
  clear hb2 q0 q1 q2 q3 HQ1 HG1 HK1 HW1 hz1
  go_wp2_with fail
  go_loopw [8] (fun i' wr => ∃ r : Nat, r ≤ 12 ∧ i' = .int .i64 r ∧ Hid (Rowd wr B 108 480 (gridV (upTo L i f r))) ∧ Hid (At4 wr w.heap.size 0 x) ∧ Hid (Keep (fun k => k = B) w wr) ∧ w.heap.size < wr.heap.size) (fun i' _ => 12 - (intOf i').toNat)
  case atStart => exact ⟨0, by omega, rfl, unhide HG2, unhide HQ2, unhide HK2, hz2⟩
  case round =>
    obtain ⟨r, hr, rfl, HG, HQ, HK, hz⟩ := hrel
    by_cases hlt : r < 12
    case neg =>
      have e12 : r = 12 := by omega
      subst e12
      go_wp2_with fail
      go_returns
      exact ⟨rfl, unhide HG, unhide HK⟩
    have hri : (r : Int) < 12 := by omega
    obtain ⟨q0, q1, q2, q3⟩ := unhide HQ
    have hf : ∀ o, wr.frozen? ⟨B, o, none⟩ = false := (unhide HG).free
    obtain ⟨lt, hlt'⟩ : ∃ lt, lt = laterB x i (fun j => f j r) := ⟨_, rfl⟩
    have HL : Hid (lt = ((a != -1 && f a.toNat r) || (b != -1 && f b.toNat r))) := hide (hlt'.trans (unhide HLT r))
    have HST' : Hid (∀ j q, upTo L i f (r + 1) j q = if j = i ∧ q = r then (rdB x r || (lt && !wrB x r)) else upTo L i f r j q) := by
      rw [hlt']; exact unhide HST r
    clear hlt'
    go_upto_region 5 with fail
    go_cut [9] from 16 to 64 (fun v wc => v = .bool lt ∧ wc = wr)
    case first =>
      have HC : Hid (∀ n, n < 40 → wr.cell? ⟨B, n * 12 + r, none⟩ = some (.bool (f n r))) := fun n hn => by
        rw [grid_cell (unhide HG) hn hlt, unhide HOL]
      rcases h1 with rfl | ⟨g1, g2⟩
      · rcases h2 with rfl | ⟨g3, g4⟩
        · have hl : lt = false := unhide HL
          subst hl
          go_wp2_with fail
          go_meet
          case rel => exact ⟨rfl, rfl⟩
        · obtain ⟨n2, rfl⟩ : ∃ n : Nat, b = n := ⟨b.toNat, by omega⟩
          have c2 := unhide HC n2 (by omega)
          obtain ⟨t2, ht2⟩ : ∃ t, t = f n2 r := ⟨_, rfl⟩
          have hb1 : ((n2 : Int) != -1) = true := by rw [bne_iff_ne]; omega
          have hl : lt = t2 := by rw [unhide HL, hb1, ht2]; simp
          rw [← ht2] at c2
          subst hl
          clear ht2
          cases lt
          all_goals
            go_wp2_with fail
            go_meet
            case rel => exact ⟨rfl, rfl⟩
      · obtain ⟨n1, rfl⟩ : ∃ n : Nat, a = n := ⟨a.toNat, by omega⟩
        have c1 := unhide HC n1 (by omega)
        obtain ⟨t1, ht1⟩ : ∃ t, t = f n1 r := ⟨_, rfl⟩
        have ha1 : ((n1 : Int) != -1) = true := by rw [bne_iff_ne]; omega
        have HL1 := hide (show lt = (t1 || (b != -1 && f b.toNat r)) by rw [ht1]; have := unhide HL; rw [ha1] at this; simpa using this)
        rw [← ht1] at c1
        clear ht1
        cases t1
        · rcases h2 with rfl | ⟨g3, g4⟩
          · have hl : lt = false := unhide HL1
            subst hl
            go_wp2_with fail
            go_meet
            case rel => exact ⟨rfl, rfl⟩
          · obtain ⟨n2, rfl⟩ : ∃ n : Nat, b = n := ⟨b.toNat, by omega⟩
            have c2 := unhide HC n2 (by omega)
            obtain ⟨t2, ht2⟩ : ∃ t, t = f n2 r := ⟨_, rfl⟩
            have hb1 : ((n2 : Int) != -1) = true := by rw [bne_iff_ne]; omega
            have hl : lt = t2 := by rw [unhide HL1, hb1, ht2]; simp
            rw [← ht2] at c2
            subst hl
            clear ht2
            cases lt
            all_goals
              go_wp2_with fail
              go_meet
              case rel => exact ⟨rfl, rfl⟩
        · have hl : lt = true := unhide HL1
          subst hl
          go_wp2_with fail
          go_meet
          case rel => exact ⟨rfl, rfl⟩
    case rest =>
    obtain ⟨rfl, rfl⟩ := hcut
    have KR' := hide (unhide KR r)
    have KW' := hide (unhide KW r)
    obtain ⟨rd, hrd⟩ : ∃ t, t = rdB x r := ⟨_, rfl⟩
    obtain ⟨wt, hwt⟩ : ∃ t, t = wrB x r := ⟨_, rfl⟩
    rw [← hrd] at KR' HST'
    rw [← hwt] at KW' HST'
    clear hrd hwt HL HLT HST KR KW KN HOL h1 h2
    have hii : (i : Int) < 40 := by omega
    have hk : ∀ (wq : World) (j o : Nat) (z : Value), (wq.setCell ⟨B, j, none⟩ z).cell? ⟨w.heap.size, o, none⟩ = wq.cell? ⟨w.heap.size, o, none⟩ := fun wq j o z => World.cell?_setCell_other _ _ _ _ (fun e => by injection e with e1; omega)
    rcases (show rd = true ∨ (rd = false ∧ lt = false) ∨ (rd = false ∧ lt = true) by cases rd <;> cases lt <;> simp) with rfl | ⟨rfl, rfl⟩ | ⟨rfl, rfl⟩
    ·
      have HF : Hid (∀ w', Rowd w' B 108 480 (gridV (upTo L i f r)) → Rowd (w'.setCell ⟨B, i * 12 + r, none⟩ (.bool true)) B 108 480 (gridV (upTo L i f (r + 1)))) := fun w' h => grid_set h hlt (fun j q _ _ => by rw [unhide HST']; simp)
      go_wp2_with fail
      refine wp_region_held_drew (S := (fun w' => w'.cell? ⟨w.heap.size, 0, none⟩ = some (.int .i64 x.op) ∧ w'.cell? ⟨w.heap.size, 1, none⟩ = some (.int .i64 x.d) ∧ w'.cell? ⟨w.heap.size, 2, none⟩ = some (.int .i64 x.a) ∧ w'.cell? ⟨w.heap.size, 3, none⟩ = some (.int .i64 x.b))) (by kernel_rfl) (by exact ⟨q0, q1, q2, q3⟩) (fun hHeld => ?_)
      refine take_put (i := 0) (oi := _) (v := .pointer (some ⟨B, 0, none⟩)) (some 46) rfl rfl (by kernel_rfl) (by kernel_rfl) (by kernel_rfl) (fun _ _ _ h => h) (Or.inl ⟨by rfl, by (intro w' hSw; obtain ⟨s0, s1, s2, s3⟩ := hSw; go_simp; done)⟩) (by assumption) ?_
      (try simp only [Act.put, List.setIfInBounds_toArray, List.set_cons_zero, List.set_cons_succ])
      refine take_put (i := 1) (oi := _) (v := .int .i64 i) (some 47) rfl rfl (by kernel_rfl) (by kernel_rfl) (by kernel_rfl) (fun _ _ _ h => h) (Or.inl ⟨by rfl, by (intro w' hSw; obtain ⟨s0, s1, s2, s3⟩ := hSw; go_simp; done)⟩) (by assumption) ?_
      (try simp only [Act.put, List.setIfInBounds_toArray, List.set_cons_zero, List.set_cons_succ])
      refine take_put (i := 2) (oi := _) (v := .int .i64 r) (some 48) rfl rfl (by kernel_rfl) (by kernel_rfl) (by kernel_rfl) (fun _ _ _ h => h) (Or.inl ⟨by rfl, by (intro w' hSw; obtain ⟨s0, s1, s2, s3⟩ := hSw; go_simp; done)⟩) (by assumption) ?_
      (try simp only [Act.put, List.setIfInBounds_toArray, List.set_cons_zero, List.set_cons_succ])
      refine take_put (i := 3) (oi := _) (v := .agg #[.int .i64 x.op, .int .i64 x.d, .int .i64 x.a, .int .i64 x.b]) (some 49) rfl rfl (by kernel_rfl) (by kernel_rfl) (by kernel_rfl) (fun _ _ _ h => h) (Or.inl ⟨by rfl, by (intro w' hSw; obtain ⟨s0, s1, s2, s3⟩ := hSw; go_simp; done)⟩) (by assumption) ?_
      (try simp only [Act.put, List.setIfInBounds_toArray, List.set_cons_zero, List.set_cons_succ])
      refine take_put (i := 4) (oi := _) (v := .int .i64 r) (some 50) rfl rfl (by kernel_rfl) (by kernel_rfl) (by kernel_rfl) (fun _ _ _ h => h) (Or.inl ⟨by rfl, by (intro w' hSw; obtain ⟨s0, s1, s2, s3⟩ := hSw; go_simp; done)⟩) (by assumption) ?_
      (try simp only [Act.put, List.setIfInBounds_toArray, List.set_cons_zero, List.set_cons_succ])
      refine take_put (i := 15) (oi := _) (v := .pointer (some ⟨B, 0, none⟩)) (some 61) rfl rfl (by kernel_rfl) (by kernel_rfl) (by kernel_rfl) (fun _ _ _ h => h) (Or.inl ⟨by rfl, by (intro w' hSw; obtain ⟨s0, s1, s2, s3⟩ := hSw; go_simp; done)⟩) (by assumption) ?_
      (try simp only [Act.put, List.setIfInBounds_toArray, List.set_cons_zero, List.set_cons_succ])
      refine take_put (i := 16) (oi := _) (v := .pointer (some ⟨B, 0, none⟩)) (some 62) rfl rfl (by kernel_rfl) (by kernel_rfl) (by kernel_rfl) (fun _ _ _ h => h) (Or.inl ⟨by rfl, by (intro w' hSw; obtain ⟨s0, s1, s2, s3⟩ := hSw; go_simp; done)⟩) (by assumption) ?_
      (try simp only [Act.put, List.setIfInBounds_toArray, List.set_cons_zero, List.set_cons_succ])
      refine take_put (i := 17) (oi := _) (v := .pointer (some ⟨B, i * 12, none⟩)) (some 63) rfl rfl (by kernel_rfl) (by kernel_rfl) (by kernel_rfl) (fun _ _ _ h => h) (Or.inl ⟨by rfl, by (intro w' hSw; obtain ⟨s0, s1, s2, s3⟩ := hSw; go_simp; done)⟩) (by assumption) ?_
      (try simp only [Act.put, List.setIfInBounds_toArray, List.set_cons_zero, List.set_cons_succ])
      refine wpAnyH_ready (rs := [5]) (by kernel_rfl) (by simp) ?_
      refine AllReadyH.cons (o := _) rfl (fun K hK => ?_) AllReadyH.nil
      go_simp
      go_at_call 122
      refine (unhide KR' _).mono ?_
      rintro e w5 ⟨rfl, hb5⟩
      have HB5 : Hid (Below wc.heap.size wc w5) := ⟨hb5.os, hb5.tape, hb5.output, hb5.size, hb5.block⟩
      clear hb5
      have HG5 : Hid (Rowd w5 B 108 480 (gridV (upTo L i f r))) := (unhide HG).below (unhide HB5)
      have HQ5 : Hid (At4 w5 w.heap.size 0 x) := (unhide HQ).below (unhide HB5) hz
      obtain ⟨p0, p1, p2, p3⟩ := unhide HQ5
      clear hHeld q0 q1 q2 q3
      go_wp2_with fail
      refine hK.out _ _ ⟨p0, p1, p2, p3⟩ (fun hHeld => ?_)
      clear hK K
      (try simp only [Act.put, List.setIfInBounds_toArray, List.set_cons_zero, List.set_cons_succ])
      refine take_put (i := 6) (oi := _) (v := .bool true) (some 52) rfl rfl (by kernel_rfl) (by kernel_rfl) (by kernel_rfl) (fun _ _ _ h => h) (Or.inl ⟨by rfl, by (intro w' hSw; obtain ⟨s0, s1, s2, s3⟩ := hSw; go_simp; done)⟩) (by assumption) ?_
      (try simp only [Act.put, List.setIfInBounds_toArray, List.set_cons_zero, List.set_cons_succ])
      refine take_put (i := 7) (oi := _) (v := undef) (some 53) rfl rfl (by kernel_rfl) (by kernel_rfl) (by kernel_rfl) (fun _ _ _ h => h) (Or.inr ⟨by rfl, rfl⟩) (by assumption) ?_
      (try simp only [Act.put, List.setIfInBounds_toArray, List.set_cons_zero, List.set_cons_succ])
      refine take_put (i := 8) (oi := _) (v := undef) (some 54) rfl rfl (by kernel_rfl) (by kernel_rfl) (by kernel_rfl) (fun _ _ _ h => h) (Or.inr ⟨by rfl, rfl⟩) (by assumption) ?_
      (try simp only [Act.put, List.setIfInBounds_toArray, List.set_cons_zero, List.set_cons_succ])
      refine take_put (i := 9) (oi := _) (v := undef) (some 55) rfl rfl (by kernel_rfl) (by kernel_rfl) (by kernel_rfl) (fun _ _ _ h => h) (Or.inr ⟨by rfl, rfl⟩) (by assumption) ?_
      (try simp only [Act.put, List.setIfInBounds_toArray, List.set_cons_zero, List.set_cons_succ])
      refine take_put (i := 10) (oi := _) (v := undef) (some 56) rfl rfl (by kernel_rfl) (by kernel_rfl) (by kernel_rfl) (fun _ _ _ h => h) (Or.inr ⟨by rfl, rfl⟩) (by assumption) ?_
      (try simp only [Act.put, List.setIfInBounds_toArray, List.set_cons_zero, List.set_cons_succ])
      refine take_put (i := 11) (oi := _) (v := undef) (some 57) rfl rfl (by kernel_rfl) (by kernel_rfl) (by kernel_rfl) (fun _ _ _ h => h) (Or.inr ⟨by rfl, rfl⟩) (by assumption) ?_
      (try simp only [Act.put, List.setIfInBounds_toArray, List.set_cons_zero, List.set_cons_succ])
      refine take_put (i := 12) (oi := _) (v := undef) (some 58) rfl rfl (by kernel_rfl) (by kernel_rfl) (by kernel_rfl) (fun _ _ _ h => h) (Or.inr ⟨by rfl, rfl⟩) (by assumption) ?_
      (try simp only [Act.put, List.setIfInBounds_toArray, List.set_cons_zero, List.set_cons_succ])
      refine take_put (i := 13) (oi := _) (v := undef) (some 59) rfl rfl (by kernel_rfl) (by kernel_rfl) (by kernel_rfl) (fun _ _ _ h => h) (Or.inr ⟨by rfl, rfl⟩) (by assumption) ?_
      (try simp only [Act.put, List.setIfInBounds_toArray, List.set_cons_zero, List.set_cons_succ])
      refine take_put (i := 14) (oi := _) (v := .bool true) (some 60) rfl rfl (by kernel_rfl) (by kernel_rfl) (by kernel_rfl) (fun _ _ _ h => h) (Or.inl ⟨by rfl, by (intro w' hSw; obtain ⟨s0, s1, s2, s3⟩ := hSw; go_simp; done)⟩) (by assumption) ?_
      (try simp only [Act.put, List.setIfInBounds_toArray, List.set_cons_zero, List.set_cons_succ])
      refine take_put (i := 18) (oi := _) (v := .pointer (some ⟨B, i * 12 + r, none⟩)) (some 64) rfl rfl (by kernel_rfl) (by kernel_rfl) (by kernel_rfl) (fun _ _ _ h => h) (Or.inl ⟨by rfl, by (intro w' hSw; obtain ⟨s0, s1, s2, s3⟩ := hSw; go_simp; done)⟩) (by assumption) ?_
      (try simp only [Act.put, List.setIfInBounds_toArray, List.set_cons_zero, List.set_cons_succ])
      have hf5 := (unhide HG5).free
      have c5 := grid_cell (unhide HG5) hi hlt
      refine wpAnyH_ready (rs := [19]) (by kernel_rfl) (by simp) ?_
      refine AllReadyH.cons (o := _) rfl (fun K hK => ?_) AllReadyH.nil
      go_simp
      refine hK.out _ _ ?_ (fun hHeld => ?_)
      · exact ⟨(hk _ _ _ _).trans p0, (hk _ _ _ _).trans p1, (hk _ _ _ _).trans p2, (hk _ _ _ _).trans p3⟩
      clear hK K
      refine wpAnyH_done (by kernel_rfl) ?_ _
      clear hHeld c5 hf5
      go_wp2_with fail
      go_roundw
      case rel => exact ⟨r + 1, by omega, by go_num, unhide HF _ (unhide HG5), ⟨(hk _ _ _ _).trans p0, (hk _ _ _ _).trans p1, (hk _ _ _ _).trans p2, (hk _ _ _ _).trans p3⟩, keep_set ((unhide HK).trans (Keep.of_below (unhide HB5) (fun _ => False)) (fun _ _ h => h.elim)) _ _, by simp; exact Nat.lt_of_lt_of_le hz (unhide HB5).size⟩
      case measure => simp [intOf]; omega
    ·
      have HF : Hid (∀ w', Rowd w' B 108 480 (gridV (upTo L i f r)) → Rowd (w'.setCell ⟨B, i * 12 + r, none⟩ (.bool false)) B 108 480 (gridV (upTo L i f (r + 1)))) := fun w' h => grid_set h hlt (fun j q _ _ => by rw [unhide HST']; simp)
      go_wp2_with fail
      refine wp_region_held_drew (S := (fun w' => w'.cell? ⟨w.heap.size, 0, none⟩ = some (.int .i64 x.op) ∧ w'.cell? ⟨w.heap.size, 1, none⟩ = some (.int .i64 x.d) ∧ w'.cell? ⟨w.heap.size, 2, none⟩ = some (.int .i64 x.a) ∧ w'.cell? ⟨w.heap.size, 3, none⟩ = some (.int .i64 x.b))) (by kernel_rfl) (by exact ⟨q0, q1, q2, q3⟩) (fun hHeld => ?_)
      refine take_put (i := 0) (oi := _) (v := .pointer (some ⟨B, 0, none⟩)) (some 46) rfl rfl (by kernel_rfl) (by kernel_rfl) (by kernel_rfl) (fun _ _ _ h => h) (Or.inl ⟨by rfl, by (intro w' hSw; obtain ⟨s0, s1, s2, s3⟩ := hSw; go_simp; done)⟩) (by assumption) ?_
      (try simp only [Act.put, List.setIfInBounds_toArray, List.set_cons_zero, List.set_cons_succ])
      refine take_put (i := 1) (oi := _) (v := .int .i64 i) (some 47) rfl rfl (by kernel_rfl) (by kernel_rfl) (by kernel_rfl) (fun _ _ _ h => h) (Or.inl ⟨by rfl, by (intro w' hSw; obtain ⟨s0, s1, s2, s3⟩ := hSw; go_simp; done)⟩) (by assumption) ?_
      (try simp only [Act.put, List.setIfInBounds_toArray, List.set_cons_zero, List.set_cons_succ])
      refine take_put (i := 2) (oi := _) (v := .int .i64 r) (some 48) rfl rfl (by kernel_rfl) (by kernel_rfl) (by kernel_rfl) (fun _ _ _ h => h) (Or.inl ⟨by rfl, by (intro w' hSw; obtain ⟨s0, s1, s2, s3⟩ := hSw; go_simp; done)⟩) (by assumption) ?_
      (try simp only [Act.put, List.setIfInBounds_toArray, List.set_cons_zero, List.set_cons_succ])
      refine take_put (i := 3) (oi := _) (v := .agg #[.int .i64 x.op, .int .i64 x.d, .int .i64 x.a, .int .i64 x.b]) (some 49) rfl rfl (by kernel_rfl) (by kernel_rfl) (by kernel_rfl) (fun _ _ _ h => h) (Or.inl ⟨by rfl, by (intro w' hSw; obtain ⟨s0, s1, s2, s3⟩ := hSw; go_simp; done)⟩) (by assumption) ?_
      (try simp only [Act.put, List.setIfInBounds_toArray, List.set_cons_zero, List.set_cons_succ])
      refine take_put (i := 4) (oi := _) (v := .int .i64 r) (some 50) rfl rfl (by kernel_rfl) (by kernel_rfl) (by kernel_rfl) (fun _ _ _ h => h) (Or.inl ⟨by rfl, by (intro w' hSw; obtain ⟨s0, s1, s2, s3⟩ := hSw; go_simp; done)⟩) (by assumption) ?_
      (try simp only [Act.put, List.setIfInBounds_toArray, List.set_cons_zero, List.set_cons_succ])
      refine take_put (i := 15) (oi := _) (v := .pointer (some ⟨B, 0, none⟩)) (some 61) rfl rfl (by kernel_rfl) (by kernel_rfl) (by kernel_rfl) (fun _ _ _ h => h) (Or.inl ⟨by rfl, by (intro w' hSw; obtain ⟨s0, s1, s2, s3⟩ := hSw; go_simp; done)⟩) (by assumption) ?_
      (try simp only [Act.put, List.setIfInBounds_toArray, List.set_cons_zero, List.set_cons_succ])
      refine take_put (i := 16) (oi := _) (v := .pointer (some ⟨B, 0, none⟩)) (some 62) rfl rfl (by kernel_rfl) (by kernel_rfl) (by kernel_rfl) (fun _ _ _ h => h) (Or.inl ⟨by rfl, by (intro w' hSw; obtain ⟨s0, s1, s2, s3⟩ := hSw; go_simp; done)⟩) (by assumption) ?_
      (try simp only [Act.put, List.setIfInBounds_toArray, List.set_cons_zero, List.set_cons_succ])
      refine take_put (i := 17) (oi := _) (v := .pointer (some ⟨B, i * 12, none⟩)) (some 63) rfl rfl (by kernel_rfl) (by kernel_rfl) (by kernel_rfl) (fun _ _ _ h => h) (Or.inl ⟨by rfl, by (intro w' hSw; obtain ⟨s0, s1, s2, s3⟩ := hSw; go_simp; done)⟩) (by assumption) ?_
      (try simp only [Act.put, List.setIfInBounds_toArray, List.set_cons_zero, List.set_cons_succ])
      refine wpAnyH_ready (rs := [5]) (by kernel_rfl) (by simp) ?_
      refine AllReadyH.cons (o := _) rfl (fun K hK => ?_) AllReadyH.nil
      go_simp
      go_at_call 122
      refine (unhide KR' _).mono ?_
      rintro e w5 ⟨rfl, hb5⟩
      have HB5 : Hid (Below wc.heap.size wc w5) := ⟨hb5.os, hb5.tape, hb5.output, hb5.size, hb5.block⟩
      clear hb5
      have HG5 : Hid (Rowd w5 B 108 480 (gridV (upTo L i f r))) := (unhide HG).below (unhide HB5)
      have HQ5 : Hid (At4 w5 w.heap.size 0 x) := (unhide HQ).below (unhide HB5) hz
      obtain ⟨p0, p1, p2, p3⟩ := unhide HQ5
      clear hHeld q0 q1 q2 q3
      go_wp2_with fail
      refine hK.out _ _ ⟨p0, p1, p2, p3⟩ (fun hHeld => ?_)
      clear hK K
      (try simp only [Act.put, List.setIfInBounds_toArray, List.set_cons_zero, List.set_cons_succ])
      refine take_put (i := 6) (oi := _) (v := .bool false) (some 52) rfl rfl (by kernel_rfl) (by kernel_rfl) (by kernel_rfl) (fun _ _ _ h => h) (Or.inl ⟨by rfl, by (intro w' hSw; obtain ⟨s0, s1, s2, s3⟩ := hSw; go_simp; done)⟩) (by assumption) ?_
      (try simp only [Act.put, List.setIfInBounds_toArray, List.set_cons_zero, List.set_cons_succ])
      refine take_put (i := 7) (oi := _) (v := .bool false) (some 53) rfl rfl (by kernel_rfl) (by kernel_rfl) (by kernel_rfl) (fun _ _ _ h => h) (Or.inl ⟨by rfl, by (intro w' hSw; obtain ⟨s0, s1, s2, s3⟩ := hSw; go_simp; done)⟩) (by assumption) ?_
      (try simp only [Act.put, List.setIfInBounds_toArray, List.set_cons_zero, List.set_cons_succ])
      refine take_put (i := 8) (oi := _) (v := .bool false) (some 54) rfl rfl (by kernel_rfl) (by kernel_rfl) (by kernel_rfl) (fun _ _ _ h => h) (Or.inl ⟨by rfl, by (intro w' hSw; obtain ⟨s0, s1, s2, s3⟩ := hSw; go_simp; done)⟩) (by assumption) ?_
      (try simp only [Act.put, List.setIfInBounds_toArray, List.set_cons_zero, List.set_cons_succ])
      refine take_put (i := 9) (oi := _) (v := undef) (some 55) rfl rfl (by kernel_rfl) (by kernel_rfl) (by kernel_rfl) (fun _ _ _ h => h) (Or.inr ⟨by rfl, rfl⟩) (by assumption) ?_
      (try simp only [Act.put, List.setIfInBounds_toArray, List.set_cons_zero, List.set_cons_succ])
      refine take_put (i := 10) (oi := _) (v := undef) (some 56) rfl rfl (by kernel_rfl) (by kernel_rfl) (by kernel_rfl) (fun _ _ _ h => h) (Or.inr ⟨by rfl, rfl⟩) (by assumption) ?_
      (try simp only [Act.put, List.setIfInBounds_toArray, List.set_cons_zero, List.set_cons_succ])
      refine take_put (i := 11) (oi := _) (v := undef) (some 57) rfl rfl (by kernel_rfl) (by kernel_rfl) (by kernel_rfl) (fun _ _ _ h => h) (Or.inr ⟨by rfl, rfl⟩) (by assumption) ?_
      (try simp only [Act.put, List.setIfInBounds_toArray, List.set_cons_zero, List.set_cons_succ])
      refine take_put (i := 12) (oi := _) (v := undef) (some 58) rfl rfl (by kernel_rfl) (by kernel_rfl) (by kernel_rfl) (fun _ _ _ h => h) (Or.inr ⟨by rfl, rfl⟩) (by assumption) ?_
      (try simp only [Act.put, List.setIfInBounds_toArray, List.set_cons_zero, List.set_cons_succ])
      refine take_put (i := 13) (oi := _) (v := .bool false) (some 59) rfl rfl (by kernel_rfl) (by kernel_rfl) (by kernel_rfl) (fun _ _ _ h => h) (Or.inl ⟨by rfl, by (intro w' hSw; obtain ⟨s0, s1, s2, s3⟩ := hSw; go_simp; done)⟩) (by assumption) ?_
      (try simp only [Act.put, List.setIfInBounds_toArray, List.set_cons_zero, List.set_cons_succ])
      refine take_put (i := 14) (oi := _) (v := .bool false) (some 60) rfl rfl (by kernel_rfl) (by kernel_rfl) (by kernel_rfl) (fun _ _ _ h => h) (Or.inl ⟨by rfl, by (intro w' hSw; obtain ⟨s0, s1, s2, s3⟩ := hSw; go_simp; done)⟩) (by assumption) ?_
      (try simp only [Act.put, List.setIfInBounds_toArray, List.set_cons_zero, List.set_cons_succ])
      refine take_put (i := 18) (oi := _) (v := .pointer (some ⟨B, i * 12 + r, none⟩)) (some 64) rfl rfl (by kernel_rfl) (by kernel_rfl) (by kernel_rfl) (fun _ _ _ h => h) (Or.inl ⟨by rfl, by (intro w' hSw; obtain ⟨s0, s1, s2, s3⟩ := hSw; go_simp; done)⟩) (by assumption) ?_
      (try simp only [Act.put, List.setIfInBounds_toArray, List.set_cons_zero, List.set_cons_succ])
      have hf5 := (unhide HG5).free
      have c5 := grid_cell (unhide HG5) hi hlt
      refine wpAnyH_ready (rs := [19]) (by kernel_rfl) (by simp) ?_
      refine AllReadyH.cons (o := _) rfl (fun K hK => ?_) AllReadyH.nil
      go_simp
      refine hK.out _ _ ?_ (fun hHeld => ?_)
      · exact ⟨(hk _ _ _ _).trans p0, (hk _ _ _ _).trans p1, (hk _ _ _ _).trans p2, (hk _ _ _ _).trans p3⟩
      clear hK K
      refine wpAnyH_done (by kernel_rfl) ?_ _
      clear hHeld c5 hf5
      go_wp2_with fail
      go_roundw
      case rel => exact ⟨r + 1, by omega, by go_num, unhide HF _ (unhide HG5), ⟨(hk _ _ _ _).trans p0, (hk _ _ _ _).trans p1, (hk _ _ _ _).trans p2, (hk _ _ _ _).trans p3⟩, keep_set ((unhide HK).trans (Keep.of_below (unhide HB5) (fun _ => False)) (fun _ _ h => h.elim)) _ _, by simp; exact Nat.lt_of_lt_of_le hz (unhide HB5).size⟩
      case measure => simp [intOf]; omega
    ·
      have HF : Hid (∀ w', Rowd w' B 108 480 (gridV (upTo L i f r)) → Rowd (w'.setCell ⟨B, i * 12 + r, none⟩ (.bool (!wt))) B 108 480 (gridV (upTo L i f (r + 1)))) := fun w' h => grid_set h hlt (fun j q _ _ => by rw [unhide HST']; simp)
      go_wp2_with fail
      refine wp_region_held_drew (S := (fun w' => w'.cell? ⟨w.heap.size, 0, none⟩ = some (.int .i64 x.op) ∧ w'.cell? ⟨w.heap.size, 1, none⟩ = some (.int .i64 x.d) ∧ w'.cell? ⟨w.heap.size, 2, none⟩ = some (.int .i64 x.a) ∧ w'.cell? ⟨w.heap.size, 3, none⟩ = some (.int .i64 x.b))) (by kernel_rfl) (by exact ⟨q0, q1, q2, q3⟩) (fun hHeld => ?_)
      refine take_put (i := 0) (oi := _) (v := .pointer (some ⟨B, 0, none⟩)) (some 46) rfl rfl (by kernel_rfl) (by kernel_rfl) (by kernel_rfl) (fun _ _ _ h => h) (Or.inl ⟨by rfl, by (intro w' hSw; obtain ⟨s0, s1, s2, s3⟩ := hSw; go_simp; done)⟩) (by assumption) ?_
      (try simp only [Act.put, List.setIfInBounds_toArray, List.set_cons_zero, List.set_cons_succ])
      refine take_put (i := 1) (oi := _) (v := .int .i64 i) (some 47) rfl rfl (by kernel_rfl) (by kernel_rfl) (by kernel_rfl) (fun _ _ _ h => h) (Or.inl ⟨by rfl, by (intro w' hSw; obtain ⟨s0, s1, s2, s3⟩ := hSw; go_simp; done)⟩) (by assumption) ?_
      (try simp only [Act.put, List.setIfInBounds_toArray, List.set_cons_zero, List.set_cons_succ])
      refine take_put (i := 2) (oi := _) (v := .int .i64 r) (some 48) rfl rfl (by kernel_rfl) (by kernel_rfl) (by kernel_rfl) (fun _ _ _ h => h) (Or.inl ⟨by rfl, by (intro w' hSw; obtain ⟨s0, s1, s2, s3⟩ := hSw; go_simp; done)⟩) (by assumption) ?_
      (try simp only [Act.put, List.setIfInBounds_toArray, List.set_cons_zero, List.set_cons_succ])
      refine take_put (i := 3) (oi := _) (v := .agg #[.int .i64 x.op, .int .i64 x.d, .int .i64 x.a, .int .i64 x.b]) (some 49) rfl rfl (by kernel_rfl) (by kernel_rfl) (by kernel_rfl) (fun _ _ _ h => h) (Or.inl ⟨by rfl, by (intro w' hSw; obtain ⟨s0, s1, s2, s3⟩ := hSw; go_simp; done)⟩) (by assumption) ?_
      (try simp only [Act.put, List.setIfInBounds_toArray, List.set_cons_zero, List.set_cons_succ])
      refine take_put (i := 4) (oi := _) (v := .int .i64 r) (some 50) rfl rfl (by kernel_rfl) (by kernel_rfl) (by kernel_rfl) (fun _ _ _ h => h) (Or.inl ⟨by rfl, by (intro w' hSw; obtain ⟨s0, s1, s2, s3⟩ := hSw; go_simp; done)⟩) (by assumption) ?_
      (try simp only [Act.put, List.setIfInBounds_toArray, List.set_cons_zero, List.set_cons_succ])
      refine take_put (i := 15) (oi := _) (v := .pointer (some ⟨B, 0, none⟩)) (some 61) rfl rfl (by kernel_rfl) (by kernel_rfl) (by kernel_rfl) (fun _ _ _ h => h) (Or.inl ⟨by rfl, by (intro w' hSw; obtain ⟨s0, s1, s2, s3⟩ := hSw; go_simp; done)⟩) (by assumption) ?_
      (try simp only [Act.put, List.setIfInBounds_toArray, List.set_cons_zero, List.set_cons_succ])
      refine take_put (i := 16) (oi := _) (v := .pointer (some ⟨B, 0, none⟩)) (some 62) rfl rfl (by kernel_rfl) (by kernel_rfl) (by kernel_rfl) (fun _ _ _ h => h) (Or.inl ⟨by rfl, by (intro w' hSw; obtain ⟨s0, s1, s2, s3⟩ := hSw; go_simp; done)⟩) (by assumption) ?_
      (try simp only [Act.put, List.setIfInBounds_toArray, List.set_cons_zero, List.set_cons_succ])
      refine take_put (i := 17) (oi := _) (v := .pointer (some ⟨B, i * 12, none⟩)) (some 63) rfl rfl (by kernel_rfl) (by kernel_rfl) (by kernel_rfl) (fun _ _ _ h => h) (Or.inl ⟨by rfl, by (intro w' hSw; obtain ⟨s0, s1, s2, s3⟩ := hSw; go_simp; done)⟩) (by assumption) ?_
      (try simp only [Act.put, List.setIfInBounds_toArray, List.set_cons_zero, List.set_cons_succ])
      refine wpAnyH_ready (rs := [5]) (by kernel_rfl) (by simp) ?_
      refine AllReadyH.cons (o := _) rfl (fun K hK => ?_) AllReadyH.nil
      go_simp
      go_at_call 122
      refine (unhide KR' _).mono ?_
      rintro e w5 ⟨rfl, hb5⟩
      have HB5 : Hid (Below wc.heap.size wc w5) := ⟨hb5.os, hb5.tape, hb5.output, hb5.size, hb5.block⟩
      clear hb5
      have HG5 : Hid (Rowd w5 B 108 480 (gridV (upTo L i f r))) := (unhide HG).below (unhide HB5)
      have HQ5 : Hid (At4 w5 w.heap.size 0 x) := (unhide HQ).below (unhide HB5) hz
      obtain ⟨p0, p1, p2, p3⟩ := unhide HQ5
      clear hHeld q0 q1 q2 q3
      go_wp2_with fail
      refine hK.out _ _ ⟨p0, p1, p2, p3⟩ (fun hHeld => ?_)
      clear hK K
      (try simp only [Act.put, List.setIfInBounds_toArray, List.set_cons_zero, List.set_cons_succ])
      refine take_put (i := 6) (oi := _) (v := .bool false) (some 52) rfl rfl (by kernel_rfl) (by kernel_rfl) (by kernel_rfl) (fun _ _ _ h => h) (Or.inl ⟨by rfl, by (intro w' hSw; obtain ⟨s0, s1, s2, s3⟩ := hSw; go_simp; done)⟩) (by assumption) ?_
      (try simp only [Act.put, List.setIfInBounds_toArray, List.set_cons_zero, List.set_cons_succ])
      refine take_put (i := 7) (oi := _) (v := .bool true) (some 53) rfl rfl (by kernel_rfl) (by kernel_rfl) (by kernel_rfl) (fun _ _ _ h => h) (Or.inl ⟨by rfl, by (intro w' hSw; obtain ⟨s0, s1, s2, s3⟩ := hSw; go_simp; done)⟩) (by assumption) ?_
      (try simp only [Act.put, List.setIfInBounds_toArray, List.set_cons_zero, List.set_cons_succ])
      refine take_put (i := 8) (oi := _) (v := .bool true) (some 54) rfl rfl (by kernel_rfl) (by kernel_rfl) (by kernel_rfl) (fun _ _ _ h => h) (Or.inl ⟨by rfl, by (intro w' hSw; obtain ⟨s0, s1, s2, s3⟩ := hSw; go_simp; done)⟩) (by assumption) ?_
      (try simp only [Act.put, List.setIfInBounds_toArray, List.set_cons_zero, List.set_cons_succ])
      refine take_put (i := 9) (oi := _) (v := .agg #[.int .i64 x.op, .int .i64 x.d, .int .i64 x.a, .int .i64 x.b]) (some 55) rfl rfl (by kernel_rfl) (by kernel_rfl) (by kernel_rfl) (fun _ _ _ h => h) (Or.inl ⟨by rfl, by (intro w' hSw; obtain ⟨s0, s1, s2, s3⟩ := hSw; go_simp; done)⟩) (by assumption) ?_
      (try simp only [Act.put, List.setIfInBounds_toArray, List.set_cons_zero, List.set_cons_succ])
      refine take_put (i := 10) (oi := _) (v := .int .i64 r) (some 56) rfl rfl (by kernel_rfl) (by kernel_rfl) (by kernel_rfl) (fun _ _ _ h => h) (Or.inl ⟨by rfl, by (intro w' hSw; obtain ⟨s0, s1, s2, s3⟩ := hSw; go_simp; done)⟩) (by assumption) ?_
      (try simp only [Act.put, List.setIfInBounds_toArray, List.set_cons_zero, List.set_cons_succ])
      refine wpAnyH_ready (rs := [11]) (by kernel_rfl) (by simp) ?_
      refine AllReadyH.cons (o := _) rfl (fun K hK => ?_) AllReadyH.nil
      go_simp
      go_at_call 123
      refine (unhide KW' _).mono ?_
      rintro e w6 ⟨rfl, hb6⟩
      have HB6 : Hid (Below wc.heap.size wc w6) := (unhide HB5).trans (hb6.mono (unhide HB5).size)
      clear hb6 p0 p1 p2 p3
      have HG6 : Hid (Rowd w6 B 108 480 (gridV (upTo L i f r))) := (unhide HG).below (unhide HB6)
      have HQ6 : Hid (At4 w6 w.heap.size 0 x) := (unhide HQ).below (unhide HB6) hz
      obtain ⟨p0, p1, p2, p3⟩ := unhide HQ6
      clear hHeld
      go_wp2_with fail
      refine hK.out _ _ ⟨p0, p1, p2, p3⟩ (fun hHeld => ?_)
      clear hK K
      (try simp only [Act.put, List.setIfInBounds_toArray, List.set_cons_zero, List.set_cons_succ])
      refine take_put (i := 12) (oi := _) (v := .bool (!wt)) (some 58) rfl rfl (by kernel_rfl) (by kernel_rfl) (by kernel_rfl) (fun _ _ _ h => h) (Or.inl ⟨by rfl, by (intro w' hSw; obtain ⟨s0, s1, s2, s3⟩ := hSw; go_simp; done)⟩) (by assumption) ?_
      (try simp only [Act.put, List.setIfInBounds_toArray, List.set_cons_zero, List.set_cons_succ])
      refine take_put (i := 13) (oi := _) (v := .bool (!wt)) (some 59) rfl rfl (by kernel_rfl) (by kernel_rfl) (by kernel_rfl) (fun _ _ _ h => h) (Or.inl ⟨by rfl, by (intro w' hSw; obtain ⟨s0, s1, s2, s3⟩ := hSw; go_simp; done)⟩) (by assumption) ?_
      (try simp only [Act.put, List.setIfInBounds_toArray, List.set_cons_zero, List.set_cons_succ])
      refine take_put (i := 14) (oi := _) (v := .bool (!wt)) (some 60) rfl rfl (by kernel_rfl) (by kernel_rfl) (by kernel_rfl) (fun _ _ _ h => h) (Or.inl ⟨by rfl, by (intro w' hSw; obtain ⟨s0, s1, s2, s3⟩ := hSw; go_simp; done)⟩) (by assumption) ?_
      (try simp only [Act.put, List.setIfInBounds_toArray, List.set_cons_zero, List.set_cons_succ])
      refine take_put (i := 18) (oi := _) (v := .pointer (some ⟨B, i * 12 + r, none⟩)) (some 64) rfl rfl (by kernel_rfl) (by kernel_rfl) (by kernel_rfl) (fun _ _ _ h => h) (Or.inl ⟨by rfl, by (intro w' hSw; obtain ⟨s0, s1, s2, s3⟩ := hSw; go_simp; done)⟩) (by assumption) ?_
      (try simp only [Act.put, List.setIfInBounds_toArray, List.set_cons_zero, List.set_cons_succ])
      have hf5 := (unhide HG6).free
      have c5 := grid_cell (unhide HG6) hi hlt
      refine wpAnyH_ready (rs := [19]) (by kernel_rfl) (by simp) ?_
      refine AllReadyH.cons (o := _) rfl (fun K hK => ?_) AllReadyH.nil
      go_simp
      refine hK.out _ _ ?_ (fun hHeld => ?_)
      · exact ⟨(hk _ _ _ _).trans p0, (hk _ _ _ _).trans p1, (hk _ _ _ _).trans p2, (hk _ _ _ _).trans p3⟩
      clear hK K
      refine wpAnyH_done (by kernel_rfl) ?_ _
      clear hHeld c5 hf5
      go_wp2_with fail
      go_roundw
      case rel => exact ⟨r + 1, by omega, by go_num, unhide HF _ (unhide HG6), ⟨(hk _ _ _ _).trans p0, (hk _ _ _ _).trans p1, (hk _ _ _ _).trans p2, (hk _ _ _ _).trans p3⟩, keep_set ((unhide HK).trans (Keep.of_below (unhide HB6) (fun _ => False)) (fun _ _ h => h.elim)) _ _, by simp; exact Nat.lt_of_lt_of_le hz (unhide HB6).size⟩
      case measure => simp [intOf]; omega
end Go.Proofs.YtoepcplbpochpaaDoor
