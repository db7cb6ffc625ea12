/-
  Plain mathematics: the beginning: the unit's args are brought to their homes.
-/
import Derived.Test.YtoepcplbpochpaaDoorPiece25
import Derived.Test.YtoepcplbpochpaaDoorPiece19
import Derived.Test.YtoepcplbpochpaaDoorPiece1

namespace Go.Proofs.YtoepcplbpochpaaDoor
open Go.RowKit

/-- A straight piece of code is done one by one. -/
theorem run_straight {C : List In4} : ∀ (l : List In4) (t : St), t.on = true → (∀ j, j < l.length → inAt C (t.at_ + j) = inAt l j) → (∀ x ∈ l, straight x) → runSt C l.length t = exec l t
  | [], t, _, _, _ => rfl
  | x :: l, t, hon, hc, hs => by
    have h0 := hc 0 (by simp)
    rw [Nat.add_zero] at h0
    have h0' : inAt C t.at_ = x := h0
    obtain ⟨s1, s2⟩ := step_straight (hs x List.mem_cons_self) t
    rw [show (x :: l).length = l.length + 1 from rfl, run_on (by omega) hon, h0', Nat.add_sub_cancel]
    exact run_straight l (stepSt x t) (s1.trans hon) (fun j hj => by
      have := hc (j + 1) (by simp; omega)
      rw [s2, show t.at_ + 1 + j = t.at_ + (j + 1) by omega, this]; rfl) (fun z hz => hs z (List.mem_cons_of_mem _ hz))
theorem load_straight (hs : Nat → Bool) (ha : Nat → Nat) (s : Nat → Bool) : ∀ k x, x ∈ loadC hs ha s k → straight x
  | 0, x, h => by cases h
  | k + 1, x, h => by
    have h' : x ∈ loadC hs ha s k ++ if (s k && !hs k) = true then [⟨15, ha k, k, 0⟩] else [] := h
    rcases List.mem_append.1 h' with h' | h'
    · exact load_straight hs ha s k x h'
    · split at h'
      · rw [List.mem_singleton] at h'; subst h'; exact .inr (.inr (.inr (.inr (.inl rfl))))
      · cases h'
theorem nth_far {xs : List Int} {k : Nat} (h : xs.length ≤ k) : nth xs k = 0 := by
  unfold nth; rw [List.getD_eq_getElem?_getD, List.getElem?_eq_none h]; rfl
/-- The args are loaded, one by one. -/
theorem load_done {P R V K : Nat} {L : List In4} (hp : RightP P R V L) (T : List Rg) (tv : Option Value) (xs : List Int) : ∀ k, k ≤ P →
    (exec (loadC (homS L R K) (homA L R K) (liveB L 0) k) (stU T tv xs)).on = true ∧ (exec (loadC (homS L R K) (homA L R K) (liveB L 0) k) (stU T tv xs)).at_ = (loadC (homS L R K) (homA L R K) (liveB L 0) k).length ∧
    (exec (loadC (homS L R K) (homA L R K) (liveB L 0) k) (stU T tv xs)).vars = nth xs ∧ (exec (loadC (homS L R K) (homA L R K) (liveB L 0) k) (stU T tv xs)).kind = 2 ∧ (exec (loadC (homS L R K) (homA L R K) (liveB L 0) k) (stU T tv xs)).val = 0 ∧
    (exec (loadC (homS L R K) (homA L R K) (liveB L 0) k) (stU T tv xs)).outs = [] ∧ (exec (loadC (homS L R K) (homA L R K) (liveB L 0) k) (stU T tv xs)).stops = [] ∧ (exec (loadC (homS L R K) (homA L R K) (liveB L 0) k) (stU T tv xs)).env = unitEnv T tv ∧
    (∀ r, r < R → liveB L 0 r = true → homS L R K r = false → (exec (loadC (homS L R K) (homA L R K) (liveB L 0) k) (stU T tv xs)).regs (homA L R K r) = if r < k then nth xs r else 0)
  | 0, _ => ⟨rfl, rfl, rfl, rfl, rfl, rfl, rfl, rfl, fun r _ _ _ => by rw [if_neg (by omega)]; rfl⟩
  | k + 1, hk => by
    obtain ⟨h1, h2, h3, h4, h5, h6, h7, h8, h9⟩ := load_done (K := K) hp T tv xs k (by omega)
    have e : loadC (homS L R K) (homA L R K) (liveB L 0) (k + 1) = loadC (homS L R K) (homA L R K) (liveB L 0) k ++ if (liveB L 0 k && !homS L R K k) = true then [⟨15, homA L R K k, k, 0⟩] else [] := rfl
    have hPR := hp.pr
    rw [e, exec_app, List.length_append]
    generalize exec (loadC (homS L R K) (homA L R K) (liveB L 0) k) (stU T tv xs) = t at *
    by_cases c : (liveB L 0 k && !homS L R K k) = true
    · rw [if_pos c]
      rw [Bool.and_eq_true, Bool.not_eq_true'] at c
      have hx : exec [⟨15, homA L R K k, k, 0⟩] t = (t.reg (homA L R K k) (t.vars k)).next := by
        show stepSt ⟨15, homA L R K k, k, 0⟩ t = _
        rw [step_load, Int.toNat_natCast, Int.toNat_natCast]
      rw [hx]
      refine ⟨h1, by show t.at_ + 1 = _; rw [h2]; rfl, h3, h4, h5, h6, h7, h8, fun r hr hl hs => ?_⟩
      show upd t.regs (homA L R K k) (t.vars k) (homA L R K r) = _
      by_cases er : r = k
      · subst er; rw [upd_same, if_pos (by omega), h3]
      · have hap := begin_apart (K := K) hp hr (show k < R by omega) er hl c.1
        rw [upd_other _ _ (fun h => hap ⟨hs.trans c.2.symm, h⟩), h9 r hr hl hs]
        by_cases g : r < k
        · rw [if_pos g, if_pos (by omega)]
        · rw [if_neg g, if_neg (by omega)]
    · rw [if_neg c]
      refine ⟨h1, h2, h3, h4, h5, h6, h7, h8, fun r hr hl hs => ?_⟩
      show t.regs (homA L R K r) = _
      rw [h9 r hr hl hs]
      have er : r ≠ k := fun er => by subst er; exact c (by rw [hl, hs]; rfl)
      by_cases g : r < k
      · rw [if_pos g, if_pos (by omega)]
      · rw [if_neg g, if_neg (by omega)]
/-- The beginning. -/
theorem sim_start {P R V K : Nat} {L : List In4} {ρ : List Sn → List Sn → Prop} (hp : RightP P R V L) (hρ : ρ [] []) (T : List Rg) (tv : Option Value) (xs : List Int) (hx : xs.length = P) :
    Sim P R K L ρ (st0 xs) (runSt (cmpC P R K L) (cmpQ P R K L 0) (stU T tv xs)) ∧ cmpQ P R K L 0 ≤ 4 ∧ (runSt (cmpC P R K L) (cmpQ P R K L 0) (stU T tv xs)).env = unitEnv T tv := by
  have e0 : cmpQ P R K L 0 = (loadC (homS L R K) (homA L R K) (liveB L 0) P).length := rfl
  have hl := loadC_len (homS L R K) (homA L R K) (liveB L 0) P
  have hp4 := hp.p4
  have hrun : runSt (cmpC P R K L) (cmpQ P R K L 0) (stU T tv xs) = exec (loadC (homS L R K) (homA L R K) (liveB L 0) P) (stU T tv xs) := by
    rw [e0]
    refine run_straight _ _ rfl (fun j hj => ?_) (load_straight _ _ _ P)
    rw [show (stU T tv xs).at_ = 0 from rfl, Nat.zero_add, code_load (by rw [e0]; exact hj), tgt_straight _ (load_straight _ _ _ P _ (inAt_mem hj))]
  obtain ⟨h1, h2, h3, h4, h5, h6, h7, h8, h9⟩ := load_done (K := K) hp T tv xs P (Nat.le_refl _)
  rw [hrun]
  refine ⟨⟨h1, fun _ => h2, fun _ r hr hlv => ?_, h6, by rw [h7]; exact hρ, h4, h5⟩, by omega, h8⟩
  show hv _ _ _ r = nth xs r
  unfold hv
  cases e : homS L R K r with
  | true => rw [if_pos rfl, h3, (hom_yes e).1]
  | false =>
    rw [if_neg (by decide), h9 r hr hlv e]
    by_cases g : r < P
    · rw [if_pos g]
    · rw [if_neg g, nth_far (by omega)]
end Go.Proofs.YtoepcplbpochpaaDoor

/-
  Plain mathematics: what is known of the variables is so all along a run, and what the table tells at a Stop.
-/
namespace Go.Proofs.YtoepcplbpochpaaDoor
open Go.RowKit

/-- The instructions of a right program, one by one. -/
theorem op_cases {x : In4} (h0 : 0 ≤ x.op) (h : x.op ≤ 14) : x.op = 0 ∨ x.op = 1 ∨ (2 ≤ x.op ∧ x.op ≤ 6) ∨ x.op = 7 ∨ x.op = 8 ∨ x.op = 9 ∨ x.op = 10 ∨ x.op = 11 ∨ x.op = 12 ∨ x.op = 13 ∨ x.op = 14 := by omega
theorem step_if (d a b : Int) (s : St) : stepSt ⟨8, d, a, b⟩ s = if s.regs a.toNat = 0 then s.next else s.next.goto b.toNat := rfl
/-- What a step makes of the registers, the variables and the place. -/
theorem step_look {P R V : Int} {L : List In4} (hp : RightP P R V L) {s : St} (hat : s.at_ < L.length) :
    (∀ r : Nat, wrB (inAt L s.at_) r = false → (stepSt (inAt L s.at_) s).regs r = s.regs r) ∧
    (∀ v : Nat, (stepSt (inAt L s.at_) s).vars v = if (inAt L s.at_).op = 12 ∧ (inAt L s.at_).d = v then s.regs (inAt L s.at_).a.toNat else if (inAt L s.at_).op = 13 ∧ (inAt L s.at_).d = v then (inAt L s.at_).a else if (inAt L s.at_).op = 14 ∧ (inAt L s.at_).d = v then -1 else s.vars v) ∧
    ((stepSt (inAt L s.at_) s).on = true → Nx L s.at_ (stepSt (inAt L s.at_) s).at_) ∧ (stepSt (inAt L s.at_) s).env = s.env := by
  have hx := hp.ins s.at_ hat
  have hlow := hp.low s.at_ hat
  unfold Nx
  generalize inAt L s.at_ = x at *
  obtain ⟨op, d, a, b⟩ := x
  unfold Right at hx
  simp only at hx hlow
  have nxt : op ≠ 7 → op ≠ 8 → op ≠ 10 → nx1 ⟨op, d, a, b⟩ s.at_ = (s.at_ : Int) + 1 := fun h1 h2 h3 => by unfold nx1; rw [if_neg h1, if_neg h2, if_neg h3]
  have wr : ∀ r : Nat, wrB ⟨op, d, a, b⟩ r = false → (op = 0 ∨ op = 1 ∨ (2 ≤ op ∧ op ≤ 6)) → r ≠ d.toNat := fun r h ho e => by
    unfold wrB isWr isRk at h
    rw [Bool.and_eq_false_iff] at h
    rcases h with h | h
    · rw [Bool.or_eq_false_iff, Bool.or_eq_false_iff, Bool.and_eq_false_iff, beq_eq_false_iff_ne, beq_eq_false_iff_ne, decide_eq_false_iff_not, decide_eq_false_iff_not] at h
      simp only at h
      omega
    · rw [beq_eq_false_iff_ne] at h
      simp only at h
      have := hx.2.2.1 ho
      omega
  rcases op_cases (x := ⟨op, d, a, b⟩) hx.1 hlow with h | h | h | h | h | h | h | h | h | h | h
  · simp only at h
    subst h
    refine ⟨fun r hr => upd_other _ _ (wr r hr (.inl rfl)), fun v => ?_, fun _ => .inl ?_, rfl⟩
    · rw [if_neg (by dsimp only; omega), if_neg (by dsimp only; omega), if_neg (by dsimp only; omega)]; rfl
    · rw [nxt (by omega) (by omega) (by omega)]; exact Int.natCast_succ _
  · simp only at h
    subst h
    refine ⟨fun r hr => upd_other _ _ (wr r hr (.inr (.inl rfl))), fun v => ?_, fun _ => .inl ?_, rfl⟩
    · rw [if_neg (by dsimp only; omega), if_neg (by dsimp only; omega), if_neg (by dsimp only; omega)]; rfl
    · rw [nxt (by omega) (by omega) (by omega)]; exact Int.natCast_succ _
  · simp only at h
    rw [step_reck h]
    unfold St.reckon
    split
    · refine ⟨fun r hr => rfl, fun v => ?_, fun hh => (by cases hh), rfl⟩
      rw [if_neg (by dsimp only; omega), if_neg (by dsimp only; omega), if_neg (by dsimp only; omega)]; rfl
    · refine ⟨fun r hr => upd_other _ _ (wr r hr (.inr (.inr h))), fun v => ?_, fun _ => .inl ?_, rfl⟩
      · rw [if_neg (by dsimp only; omega), if_neg (by dsimp only; omega), if_neg (by dsimp only; omega)]; rfl
      · rw [nxt (by omega) (by omega) (by omega)]; exact Int.natCast_succ _
  · simp only at h
    subst h
    refine ⟨fun r hr => rfl, fun v => ?_, fun _ => .inl ?_, rfl⟩
    · rw [if_neg (by dsimp only; omega), if_neg (by dsimp only; omega), if_neg (by dsimp only; omega)]; rfl
    · show ((a.toNat : Nat) : Int) = nx1 ⟨7, d, a, b⟩ s.at_
      have := hx.2.2.2.2.2.2.1 rfl
      unfold nx1; rw [if_pos rfl]; simp only; omega
  · simp only at h
    subst h
    rw [step_if]
    split
    · refine ⟨fun r hr => rfl, fun v => ?_, fun _ => .inr ?_, rfl⟩
      · rw [if_neg (by dsimp only; omega), if_neg (by dsimp only; omega), if_neg (by dsimp only; omega)]; rfl
      · show ((s.at_ + 1 : Nat) : Int) = nx2 ⟨8, d, a, b⟩ s.at_
        unfold nx2; rw [if_pos rfl]; omega
    · refine ⟨fun r hr => rfl, fun v => ?_, fun _ => .inl ?_, rfl⟩
      · rw [if_neg (by dsimp only; omega), if_neg (by dsimp only; omega), if_neg (by dsimp only; omega)]; rfl
      · show ((b.toNat : Nat) : Int) = nx1 ⟨8, d, a, b⟩ s.at_
        have := hx.2.2.2.2.2.2.2.1 rfl
        unfold nx1; rw [if_neg (show (8 : Int) ≠ 7 by decide), if_pos rfl]; simp only; omega
  · simp only at h
    subst h
    refine ⟨fun r hr => rfl, fun v => ?_, fun _ => .inl ?_, rfl⟩
    · rw [if_neg (by dsimp only; omega), if_neg (by dsimp only; omega), if_neg (by dsimp only; omega)]; rfl
    · rw [nxt (by omega) (by omega) (by omega)]; exact Int.natCast_succ _
  · simp only at h
    subst h
    refine ⟨fun r hr => rfl, fun v => ?_, fun hh => (by cases hh), rfl⟩
    rw [if_neg (by dsimp only; omega), if_neg (by dsimp only; omega), if_neg (by dsimp only; omega)]; rfl
  · simp only at h
    subst h
    refine ⟨fun r hr => rfl, fun v => ?_, fun _ => .inl ?_, rfl⟩
    · rw [if_neg (by dsimp only; omega), if_neg (by dsimp only; omega), if_neg (by dsimp only; omega)]; rfl
    · rw [nxt (by omega) (by omega) (by omega)]; exact Int.natCast_succ _
  · simp only at h
    subst h
    have hd := hx.2.2.2.2.2.2.2.2.2.1 (by omega)
    refine ⟨fun r hr => rfl, fun v => ?_, fun _ => .inl ?_, rfl⟩
    · show upd s.vars d.toNat (s.regs a.toNat) v = _
      by_cases e : d = v
      · rw [if_pos ⟨rfl, e⟩, e, Int.toNat_natCast, upd_same]
      · rw [if_neg (fun h => e h.2), if_neg (by dsimp only; omega), if_neg (by dsimp only; omega)]; exact upd_other _ _ (by omega)
    · rw [nxt (by omega) (by omega) (by omega)]; exact Int.natCast_succ _
  · simp only at h
    subst h
    have hd := hx.2.2.2.2.2.2.2.2.2.1 (by omega)
    refine ⟨fun r hr => rfl, fun v => ?_, fun _ => .inl ?_, rfl⟩
    · show upd s.vars d.toNat a v = _
      by_cases e : d = v
      · rw [if_neg (by dsimp only; omega), if_pos ⟨rfl, e⟩, e, Int.toNat_natCast, upd_same]
      · rw [if_neg (by dsimp only; omega), if_neg (fun h => e h.2), if_neg (by dsimp only; omega)]; exact upd_other _ _ (by omega)
    · rw [nxt (by omega) (by omega) (by omega)]; exact Int.natCast_succ _
  · simp only at h
    subst h
    have hd := hx.2.2.2.2.2.2.2.2.2.1 (by omega)
    refine ⟨fun r hr => rfl, fun v => ?_, fun _ => .inl ?_, rfl⟩
    · show upd s.vars d.toNat (-1) v = _
      by_cases e : d = v
      · rw [if_neg (by dsimp only; omega), if_neg (by dsimp only; omega), if_pos ⟨rfl, e⟩, e, Int.toNat_natCast, upd_same]
      · rw [if_neg (by dsimp only; omega), if_neg (by dsimp only; omega), if_neg (fun h => e h.2)]; exact upd_other _ _ (by omega)
    · rw [nxt (by omega) (by omega) (by omega)]; exact Int.natCast_succ _
/-- What is known behind a step is so. -/
theorem fact_step {P R V : Int} {L : List In4} (hp : RightP P R V L) {s : St} (hat : s.at_ < L.length) (v : Nat) (h : FactOk (factB L s.at_ v) s.regs (s.vars v)) (hon : (stepSt (inAt L s.at_) s).on = true) :
    FactOk (factB L (stepSt (inAt L s.at_) s).at_ v) (stepSt (inAt L s.at_) s).regs ((stepSt (inAt L s.at_) s).vars v) := by
  obtain ⟨h1, h2, h3, _⟩ := step_look hp hat
  have hm := met_fix (right_inside hp) v hat (h3 hon)
  have hx := hp.ins s.at_ hat
  refine fact_met (g := behF (inAt L s.at_) v (factB L s.at_ v)) ?_ hm
  clear hm h3
  obtain ⟨f, hf⟩ : ∃ f, f = factB L s.at_ v := ⟨_, rfl⟩
  rw [← hf] at h ⊢
  rw [h2 v]
  obtain ⟨k0, k2, k3⟩ := h
  have triv : ∀ val, FactOk f1 (stepSt (inAt L s.at_) s).regs val := fun val => ⟨by decide, fun h => (by cases h), fun h => (by cases h)⟩
  unfold behF
  rw [if_neg k0]
  by_cases c : f.k = 3 ∧ wrB (inAt L s.at_) f.a = true
  · rw [if_pos c]; exact triv _
  rw [if_neg c]
  by_cases e : ((inAt L s.at_).op = 12 ∨ (inAt L s.at_).op = 13 ∨ (inAt L s.at_).op = 14) ∧ (inAt L s.at_).d = v
  · rw [if_pos e]
    obtain ⟨eo, ed⟩ := e
    rcases eo with eo | eo | eo
    · rw [if_pos eo, if_pos ⟨eo, ed⟩]
      have ha := hx.2.2.2.1 (.inr (.inr (.inr (.inr (.inr eo)))))
      refine ⟨show (3 : Int) ≠ 0 by decide, fun h => (by cases h), fun _ => ⟨ha.1, ?_⟩⟩
      have hw : wrB (inAt L s.at_) (inAt L s.at_).a.toNat = false := by unfold wrB isWr isRk; rw [eo]; rfl
      exact (h1 _ hw).symm
    · rw [if_neg (by omega), if_pos eo, if_neg (by omega), if_pos ⟨eo, ed⟩]
      exact ⟨show (2 : Int) ≠ 0 by decide, fun _ => rfl, fun h => (by cases h)⟩
    · rw [if_neg (by omega), if_neg (by omega)]; exact triv _
  · rw [if_neg e, if_neg (fun h => e ⟨.inl h.1, h.2⟩), if_neg (fun h => e ⟨.inr (.inl h.1), h.2⟩), if_neg (fun h => e ⟨.inr (.inr h.1), h.2⟩)]
    refine ⟨k0, k2, fun hk => ?_⟩
    obtain ⟨a0, a1⟩ := k3 hk
    refine ⟨a0, ?_⟩
    rw [a1]
    refine (h1 _ ?_).symm
    rw [show ((f.a.toNat : Nat) : Int) = f.a by omega]
    cases hw : wrB (inAt L s.at_) f.a with
    | false => rfl
    | true => exact absurd ⟨hk, hw⟩ c
/-- Two Stops begin at two places. -/
theorem stop_place {P R K : Nat} {L : List In4} {i j : Nat} (hi : i < L.length) (hj : j < L.length) (oi : (inAt L i).op = 11) (oj : (inAt L j).op = 11) (h : cmpQ P R K L i = cmpQ P R K L j) : i = j := by
  have pos := cmp_pos P R K L
  rcases Nat.lt_trichotomy i j with e | e | e
  · have h1 := pos.stop i hi oi
    have h2 := pos.mono (i + 1) (j - (i + 1)) (by omega)
    rw [show i + 1 + (j - (i + 1)) = j by omega] at h2
    omega
  · exact e
  · have h1 := pos.stop j hj oj
    have h2 := pos.mono (j + 1) (i - (j + 1)) (by omega)
    rw [show j + 1 + (i - (j + 1)) = i by omega] at h2
    omega
/-- What the table tells at a Stop. -/
theorem told_at {P R V K : Nat} {L : List In4} (hp : RightP P R V L) (hK : 2 ≤ K) (hK' : K ≤ 16) {i : Nat} (hi : i < L.length) (ho : (inAt L i).op = 11) (regs slots : Nat → Int) (v : Nat) :
    (v < V ∧ canB (factB L i v) (liveB L i) = true → ∃ r : Rg, toldE (cmpR P R V K L) regs slots (cmpQ P R K L i) v = heldE regs slots r ∧ r.k = placeK (factB L i v) (homS L R K) ∧ r.a = placeA (factB L i v) (homA L R K)) ∧
    (¬ (v < V ∧ canB (factB L i v) (liveB L i) = true) → toldE (cmpR P R V K L) regs slots (cmpQ P R K L i) v = -1) := by
  obtain ⟨ht, hT⟩ := cmp_table hp hK hK'
  have hst := cmpS_at (P := P) (R := R) (K := K) hi
  have key : ∀ j, j < (cmpR P R V K L).length → Hits (rg (cmpR P R V K L) j) (cmpQ P R K L i) v → (v < V ∧ canB (factB L i v) (liveB L i) = true) ∧ (rg (cmpR P R V K L) j).k = placeK (factB L i v) (homS L R K) ∧ (rg (cmpR P R V K L) j).a = placeA (factB L i v) (homA L R K) := fun j hj hh => by
    obtain ⟨u, i', hu, hi', g1, g2, g3, g4, g5, g6⟩ := (hT v (cmpQ P R K L i) (rg (cmpR P R V K L) j).k (rg (cmpR P R V K L) j).a).1 ⟨_, rg_mem hj, hh.1, hh.2.1, hh.2.2, rfl, rfl⟩
    obtain rfl : u = v := by omega
    have e : i = i' := stop_place (P := P) (R := R) (K := K) hi hi' ho g1 (by rw [cmpS_at hi'] at g4; omega)
    subst e
    exact ⟨⟨hu, g2⟩, g5, g6⟩
  by_cases hex : ∃ j, j < (cmpR P R V K L).length ∧ Hits (rg (cmpR P R V K L) j) (cmpQ P R K L i) v
  · obtain ⟨j, hj, hh⟩ := hex
    obtain ⟨k1, k2, k3⟩ := key j hj hh
    refine ⟨fun _ => ⟨rg (cmpR P R V K L) j, ?_, k2, k3⟩, fun hn => absurd k1 hn⟩
    exact told_first ht hj hh j 0 (Nat.zero_add _)
  · refine ⟨fun hc => ?_, fun _ => told_none _ _ (fun j _ hj hh => hex ⟨j, by omega, hh⟩)⟩
    exfalso
    obtain ⟨r, hr, h1, h2, h3, _, _⟩ := (hT v (cmpQ P R K L i) (placeK (factB L i v) (homS L R K)) (placeA (factB L i v) (homA L R K))).2 ⟨v, i, hc.1, hi, ho, hc.2, rfl, by rw [hst], rfl, rfl⟩
    obtain ⟨j, hj, e⟩ := List.mem_iff_getElem.1 hr
    have e' : rg (cmpR P R V K L) j = r := by unfold rg; rw [List.getD_eq_getElem?_getD, List.getElem?_eq_getElem hj, ← e]; rfl
    exact hex ⟨j, hj, by rw [e']; exact ⟨h1, h2, h3⟩⟩
end Go.Proofs.YtoepcplbpochpaaDoor

/-
  Plain mathematics: a program's run and its unit's, from the beginning on.
-/
namespace Go.Proofs.YtoepcplbpochpaaDoor
open Go.RowKit

theorem pre_gen (x : In4) (s : St) : (preSt x s).steps = s.steps ∧ (preSt x s).env = s.env ∧ (preSt x s).on = s.on ∧ (preSt x s).kind = s.kind ∧ (preSt x s).val = s.val := by
  unfold preSt
  split
  · exact ⟨rfl, rfl, rfl, rfl, rfl⟩
  split
  · exact ⟨rfl, rfl, rfl, rfl, rfl⟩
  split
  · exact ⟨rfl, rfl, rfl, rfl, rfl⟩
  split
  · exact ⟨rfl, rfl, rfl, rfl, rfl⟩
  split
  · exact ⟨rfl, rfl, rfl, rfl, rfl⟩
  split
  · exact ⟨rfl, rfl, rfl, rfl, rfl⟩
  · exact ⟨rfl, rfl, rfl, rfl, rfl⟩
theorem do_gen (x : In4) (s : St) : (doSt x s).steps = s.steps + 1 ∧ (doSt x s).env = s.env ∧ (((doSt x s).on = s.on ∧ (doSt x s).kind = s.kind ∧ (doSt x s).val = s.val) ∨ ((doSt x s).on = false ∧ ((∃ r : Nat, (doSt x s).kind = 0 ∧ (doSt x s).val = s.regs r) ∨ ((doSt x s).kind = 1 ∧ (doSt x s).val = 0)))) := by
  unfold doSt
  split
  · exact ⟨rfl, rfl, .inl ⟨rfl, rfl, rfl⟩⟩
  split
  · exact ⟨rfl, rfl, .inl ⟨rfl, rfl, rfl⟩⟩
  split
  · exact ⟨rfl, rfl, .inl ⟨rfl, rfl, rfl⟩⟩
  split
  · split
    · exact ⟨rfl, rfl, .inl ⟨rfl, rfl, rfl⟩⟩
    · exact ⟨rfl, rfl, .inl ⟨rfl, rfl, rfl⟩⟩
  split
  · exact ⟨rfl, rfl, .inl ⟨rfl, rfl, rfl⟩⟩
  split
  · exact ⟨rfl, rfl, .inr ⟨rfl, .inl ⟨_, rfl, rfl⟩⟩⟩
  split
  · unfold St.reckon
    split
    · exact ⟨rfl, rfl, .inr ⟨rfl, .inr ⟨rfl, rfl⟩⟩⟩
    · exact ⟨rfl, rfl, .inl ⟨rfl, rfl, rfl⟩⟩
  · exact ⟨rfl, rfl, .inl ⟨rfl, rfl, rfl⟩⟩
/-- A step, whatever it is. -/
theorem step_gen (x : In4) (s : St) : (stepSt x s).steps = s.steps + 1 ∧ (stepSt x s).env = s.env ∧ (((stepSt x s).on = s.on ∧ (stepSt x s).kind = s.kind ∧ (stepSt x s).val = s.val) ∨ ((stepSt x s).on = false ∧ ((stepSt x s).kind = 0 ∨ ((stepSt x s).kind = 1 ∧ (stepSt x s).val = 0)))) := by
  obtain ⟨p1, p2, p3, p4, p5⟩ := pre_gen x s
  obtain ⟨d1, d2, d3⟩ := do_gen x (preSt x s)
  unfold stepSt
  refine ⟨by rw [d1, p1], d2.trans p2, ?_⟩
  rcases d3 with ⟨e1, e2, e3⟩ | ⟨e1, ⟨r, e2, _⟩ | e2⟩
  · exact .inl ⟨e1.trans p3, e2.trans p4, e3.trans p5⟩
  · exact .inr ⟨e1, .inl e2⟩
  · exact .inr ⟨e1, .inr e2⟩
/-- A run, whatever it is, that has begun: where it goes on it has done as many steps as its fuel. -/
theorem run_gen (C : List In4) : ∀ (m : Nat) (t : St), t.on = true → t.kind = 2 → t.val = 0 →
    (runSt C m t).env = t.env ∧ (runSt C m t).steps ≤ t.steps + m ∧ (((runSt C m t).on = true ∧ (runSt C m t).kind = 2 ∧ (runSt C m t).val = 0 ∧ (runSt C m t).steps = t.steps + m) ∨ ((runSt C m t).on = false ∧ t.steps < (runSt C m t).steps ∧ ((runSt C m t).kind = 0 ∨ ((runSt C m t).kind = 1 ∧ (runSt C m t).val = 0))))
  | 0, t, h, hk, hv => ⟨rfl, Nat.le_refl _, .inl ⟨h, hk, hv, rfl⟩⟩
  | m + 1, t, h, hk, hv => by
    rw [run_on (by omega) h, Nat.add_sub_cancel]
    obtain ⟨g1, g2, g3⟩ := step_gen (inAt C t.at_) t
    generalize stepSt (inAt C t.at_) t = t' at *
    rcases g3 with ⟨e1, e2, e3⟩ | ⟨e1, e2⟩
    · obtain ⟨r1, r2, r3⟩ := run_gen C m t' (e1.trans h) (e2.trans hk) (e3.trans hv)
      refine ⟨r1.trans g2, by omega, ?_⟩
      rcases r3 with ⟨f1, f2, f3, f4⟩ | ⟨f1, f2, f3⟩
      · exact .inl ⟨f1, f2, f3, by omega⟩
      · exact .inr ⟨f1, by omega, f3⟩
    · rw [run_off _ _ _ e1]
      exact ⟨g2, by omega, .inr ⟨e1, by omega, e2⟩⟩
theorem step_env (x : In4) (s : St) : (stepSt x s).env = s.env := (step_gen x s).2.1
theorem run_env (C : List In4) : ∀ (m : Nat) (t : St), (runSt C m t).env = t.env
  | 0, _ => rfl
  | m + 1, t => by
    cases h : t.on with
    | false => rw [run_off _ _ _ h]
    | true => rw [run_on (by omega) h, Nat.add_sub_cancel, run_env C m]; exact step_env _ _

/-- What is told of a variable. -/
def snV (x : Sn) (v : Nat) : Int := if v = 0 then x.v0 else if v = 1 then x.v1 else if v = 2 then x.v2 else x.v3
/-- One Stop, at the place i: what the unit (x) and the program (y) show. -/
structure Stopped (L : List In4) (V i : Nat) (x y : Sn) : Prop where
  lt : i < L.length
  op : (inAt L i).op = 11
  no : x.no = y.no
  num : y.no = (inAt L i).a
  known : ∀ v, v < 4 → (factB L i v).k ≠ 0
  told : ∀ v, v < 4 → v < V → canB (factB L i v) (liveB L i) = true → snV x v = snV y v ∧ 0 ≤ snV x v
  none : ∀ v, v < 4 → ¬ (v < V ∧ canB (factB L i v) (liveB L i) = true) → snV x v = -1
  bare : ∀ v, v < 4 → V ≤ v → snV y v = -1
  tied : ∀ v, v < 4 → (factB L i v).k = 2 → snV y v = (factB L i v).a
/-- The Stops of a run, with their places. -/
def Rel3 (Q : Nat → Sn → Sn → Prop) : List Sn → List Sn → List Nat → Prop
  | [], [], [] => True
  | x :: a, y :: b, i :: c => Q i x y ∧ Rel3 Q a b c
  | _, _, _ => False
theorem Rel3.snoc {Q : Nat → Sn → Sn → Prop} {i : Nat} {x y : Sn} (h : Q i x y) : ∀ {a b : List Sn} {c : List Nat}, Rel3 Q a b c → Rel3 Q (a ++ [x]) (b ++ [y]) (c ++ [i])
  | [], [], [], _ => ⟨h, True.intro⟩
  | _ :: _, _ :: _, _ :: _, ⟨h1, h2⟩ => ⟨h1, Rel3.snoc h h2⟩
  | [], [], _ :: _, h => h.elim
  | [], _ :: _, _, h => h.elim
  | _ :: _, [], _, h => h.elim
  | _ :: _, _ :: _, [], h => h.elim
theorem Rel3.len {Q : Nat → Sn → Sn → Prop} : ∀ {a b : List Sn} {c : List Nat}, Rel3 Q a b c → a.length = b.length ∧ c.length = b.length
  | [], [], [], _ => ⟨rfl, rfl⟩
  | _ :: _, _ :: _, _ :: _, ⟨_, h2⟩ => ⟨congrArg (· + 1) (Rel3.len h2).1, congrArg (· + 1) (Rel3.len h2).2⟩
  | [], [], _ :: _, h => h.elim
  | [], _ :: _, _, h => h.elim
  | _ :: _, [], _, h => h.elim
  | _ :: _, _ :: _, [], h => h.elim
theorem Rel3.at {Q : Nat → Sn → Sn → Prop} : ∀ {a b : List Sn} {c : List Nat}, Rel3 Q a b c → ∀ n, n < b.length → ∃ x y i, a[n]? = some x ∧ b[n]? = some y ∧ c[n]? = some i ∧ Q i x y
  | [], [], [], _, _, h => absurd h (Nat.not_lt_zero _)
  | x :: _, y :: _, i :: _, ⟨h1, _⟩, 0, _ => ⟨x, y, i, rfl, rfl, rfl, h1⟩
  | _ :: _, _ :: _, _ :: _, ⟨_, h2⟩, n + 1, h => Rel3.at h2 n (Nat.lt_of_succ_lt_succ h)
  | [], [], _ :: _, h, _, _ => h.elim
  | [], _ :: _, _, h, _, _ => h.elim
  | _ :: _, [], _, h, _, _ => h.elim
  | _ :: _, _ :: _, [], h, _, _ => h.elim
/-- The places of the Stops of a run. -/
def plSt (L : List In4) : Nat → St → List Nat
  | 0, _ => []
  | m + 1, s => if s.on = true then (if (inAt L s.at_).op = 11 then [s.at_] else []) ++ plSt L m (stepSt (inAt L s.at_) s) else []
theorem pl_off {L : List In4} {s : St} (h : s.on = false) : ∀ m, plSt L m s = []
  | 0 => rfl
  | m + 1 => by unfold plSt; rw [if_neg (by rw [h]; decide)]
theorem pl_add (L : List In4) : ∀ (a b : Nat) (s : St), plSt L (a + b) s = plSt L a s ++ plSt L b (runSt L a s)
  | 0, b, s => by rw [Nat.zero_add]; rfl
  | a + 1, b, s => by
    cases h : s.on with
    | false => rw [run_off _ _ _ h, pl_off h, pl_off h, pl_off h]; rfl
    | true =>
      rw [run_on (by omega) h, show a + 1 - 1 = a by omega, show a + 1 + b = (a + b) + 1 by omega]
      show (if s.on = true then _ else _) = (if s.on = true then _ else _) ++ _
      rw [if_pos h, if_pos h, pl_add L a b, List.append_assoc]
/-- What the table tells at a Stop of the run. -/
theorem tell_ok {P R V K : Nat} {L : List In4} {ρ : List Sn → List Sn → Prop} (hp : RightP P R V L) (hK : 2 ≤ K) (hK' : K ≤ 16) {s t : St} (h : Sim P R K L ρ s t) (hat : s.at_ < L.length) (hon : s.on = true) (ho : (inAt L s.at_).op = 11)
    {tv : Option Value} (hE : t.env = unitEnv (cmpR P R V K L) tv) (hok : StOk L V s) (hf : ∀ v, FactOk (factB L s.at_ v) s.regs (s.vars v)) (v : Nat) :
    (v < V → canB (factB L s.at_ v) (liveB L s.at_) = true → t.tell v = s.tell v ∧ 0 ≤ t.tell v) ∧ (¬ (v < V ∧ canB (factB L s.at_ v) (liveB L s.at_) = true) → t.tell v = -1) ∧ (V ≤ v → s.tell v = -1) ∧ ((factB L s.at_ v).k = 2 → s.tell v = (factB L s.at_ v).a) := by
  have e1 : t.tell v = toldE (cmpR P R V K L) t.regs t.vars (cmpQ P R K L s.at_) v := by unfold St.tell; rw [hE, h.at_ hon]; rfl
  have e2 : s.tell v = s.vars v := by unfold St.tell; rw [hok.env]; rfl
  obtain ⟨a1, a2⟩ := told_at hp hK hK' hat ho t.regs t.vars v
  rw [e1, e2]
  refine ⟨fun hvV hc => ?_, a2, fun hvV => hok.vars v (by omega), (hf v).2.1⟩
  obtain ⟨r, h1, h2, h3⟩ := a1 ⟨hvV, hc⟩
  rw [h1]
  obtain ⟨_, f2, f3⟩ := hf v
  rcases can_place (K := K) hp v s.at_ hc with ⟨c1, c2, c3, c4, _⟩ | ⟨q, c1, c2, c3, c4, c5, c6⟩
  · have : heldE t.regs t.vars r = r.a := by unfold heldE; rw [if_neg (by omega), if_neg (by omega)]
    rw [this, h3, c3, f2 c1]; exact ⟨rfl, c4⟩
  · have hl := h.live hon q c3 c4
    have g := (f3 c1).2
    rw [c2, Int.toNat_natCast] at g
    have : heldE t.regs t.vars r = hv (homS L R K) (homA L R K) t q := by
      unfold heldE hv
      rw [h2, h3, c5, c6, Int.toNat_natCast]
      cases homS L R K q with
      | true => rfl
      | false => rfl
    rw [this, hl, g]; exact ⟨rfl, (hok.regs q).1⟩
/-- A program's run and its unit's. -/
structure Both (P R V K : Nat) (L : List In4) (tv : Option Value) (pl : List Nat) (s t : St) : Prop where
  sim : Sim P R K L (fun a b => Rel3 (Stopped L V) a b pl) s t
  ok : StOk L V s
  fact : s.on = true → ∀ v, FactOk (factB L s.at_ v) s.regs (s.vars v)
  env : t.env = unitEnv (cmpR P R V K L) tv
theorem both_step {P R V K : Nat} {L : List In4} {tv : Option Value} {pl : List Nat} (hp : RightP P R V L) (hK : 2 ≤ K) (hK' : K ≤ 16) {s t : St} (h : Both P R V K L tv pl s t) (hon : s.on = true) :
    ∃ n, n ≤ 4 ∧ ((inAt L s.at_).op ≤ 11 → 1 ≤ n) ∧ Both P R V K L tv (pl ++ if (inAt L s.at_).op = 11 then [s.at_] else []) (stepSt (inAt L s.at_) s) (runSt (cmpC P R K L) n t) := by
  have hat := h.ok.at_ hon
  have hf := h.fact hon
  obtain ⟨n, h1, h2, h3⟩ := sim_step (ρ' := fun a b => Rel3 (Stopped L V) a b (pl ++ if (inAt L s.at_).op = 11 then [s.at_] else [])) hp hK h.sim hat hon (fun ho => by rw [if_neg ho, List.append_nil]) (fun ho => by
    show Rel3 _ _ _ (pl ++ if (inAt L s.at_).op = 11 then [s.at_] else [])
    rw [if_pos ho]
    refine Rel3.snoc ⟨hat, ho, rfl, rfl, fun v _ => (hf v).1, fun v hv => ?_, fun v hv => ?_, fun v hv => ?_, fun v hv => ?_⟩ h.sim.stops
    · have e := (tell_ok hp hK hK' h.sim hat hon ho h.env h.ok hf v).1
      intro a b
      have e := e a b
      have hv4 : v = 0 ∨ v = 1 ∨ v = 2 ∨ v = 3 := by omega
      rcases hv4 with rfl | rfl | rfl | rfl <;> exact e
    · have e := (tell_ok hp hK hK' h.sim hat hon ho h.env h.ok hf v).2.1
      intro a
      have e := e a
      have hv4 : v = 0 ∨ v = 1 ∨ v = 2 ∨ v = 3 := by omega
      rcases hv4 with rfl | rfl | rfl | rfl <;> exact e
    · have e := (tell_ok hp hK hK' h.sim hat hon ho h.env h.ok hf v).2.2.1
      intro a
      have e := e a
      have hv4 : v = 0 ∨ v = 1 ∨ v = 2 ∨ v = 3 := by omega
      rcases hv4 with rfl | rfl | rfl | rfl <;> exact e
    · have e := (tell_ok hp hK hK' h.sim hat hon ho h.env h.ok hf v).2.2.2
      intro a
      have e := e a
      have hv4 : v = 0 ∨ v = 1 ∨ v = 2 ∨ v = 3 := by omega
      rcases hv4 with rfl | rfl | rfl | rfl <;> exact e)
  exact ⟨n, h1, h2, h3, (step_ok hp h.ok hon).1, fun ho v => fact_step hp hat v (hf v) ho, (run_env _ _ _).trans h.env⟩
/-- From the beginning on. -/
theorem both_all {P R V K : Nat} {L : List In4} (hp : RightP P R V L) (hK : 2 ≤ K) (hK' : K ≤ 16) (tv : Option Value) (xs : List Int) (hx : xs.length = P) (hxs : ∀ i, 0 ≤ nth xs i ∧ nth xs i ≤ 65535) : ∀ q, ∃ j, j ≤ 4 * q + 4 ∧ ((runSt L q (st0 xs)).on = true → q ≤ 40 * j + (runSt L q (st0 xs)).at_) ∧
    Both P R V K L tv (plSt L q (st0 xs)) (runSt L q (st0 xs)) (runSt (cmpC P R K L) j (stU (cmpR P R V K L) tv xs))
  | 0 => by
    obtain ⟨h1, h2, h3⟩ := sim_start (K := K) (ρ := fun a b => Rel3 (Stopped L V) a b []) hp True.intro (cmpR P R V K L) tv xs hx
    refine ⟨cmpQ P R K L 0, by omega, fun _ => Nat.zero_le _, h1, ⟨fun _ => hp.n1, hxs, fun _ _ => rfl, Nat.le_refl _, Nat.le_refl _, fun _ => ⟨rfl, rfl⟩, rfl⟩, fun _ v => ?_, h3⟩
    have := fact_zero L v
    refine ⟨?_, ?_, ?_⟩
    · show (factB L 0 v).k ≠ 0; omega
    · intro e; have e' : (factB L 0 v).k = 2 := e; omega
    · intro e; have e' : (factB L 0 v).k = 3 := e; omega
  | q + 1 => by
    obtain ⟨j, hj, hb, h⟩ := both_all hp hK hK' tv xs hx hxs q
    rw [run_add L q 1, pl_add L q 1]
    cases hon : (runSt L q (st0 xs)).on with
    | false =>
      rw [run_off _ _ _ hon, pl_off hon, List.append_nil]
      exact ⟨j, by omega, fun e => (by rw [hon] at e; cases e), h⟩
    | true =>
      have hat := h.ok.at_ hon
      have h40 := hp.n40
      have hb := hb hon
      obtain ⟨n, h1, h2, h3⟩ := both_step hp hK hK' h hon
      rw [run_on (m := 1) (by omega) hon]
      show ∃ j, j ≤ 4 * (q + 1) + 4 ∧ ((stepSt (inAt L (runSt L q (st0 xs)).at_) (runSt L q (st0 xs))).on = true → q + 1 ≤ 40 * j + (stepSt (inAt L (runSt L q (st0 xs)).at_) (runSt L q (st0 xs))).at_) ∧ _
      have ep : plSt L 1 (runSt L q (st0 xs)) = if (inAt L (runSt L q (st0 xs)).at_).op = 11 then [(runSt L q (st0 xs)).at_] else [] := by
        show (if _ = true then _ ++ [] else _) = _
        rw [if_pos hon, List.append_nil]
      rw [ep]
      refine ⟨j + n, by omega, fun ho => ?_, by rw [run_add]; exact h3⟩
      by_cases c : (inAt L (runSt L q (st0 xs)).at_).op ≤ 11
      · have := h2 c; omega
      · have hx' := (step_look hp hat).2.2.1 ho
        have hlow := hp.low _ hat
        have e1 : nx1 (inAt L (runSt L q (st0 xs)).at_) (runSt L q (st0 xs)).at_ = ((runSt L q (st0 xs)).at_ : Int) + 1 := by unfold nx1; rw [if_neg (by omega), if_neg (by omega), if_neg (by omega)]
        have e2 : nx2 (inAt L (runSt L q (st0 xs)).at_) (runSt L q (st0 xs)).at_ = -1 := by unfold nx2; rw [if_neg (by omega)]
        unfold Nx at hx'
        rw [e1, e2] at hx'
        omega
end Go.Proofs.YtoepcplbpochpaaDoor

/-
  Plain mathematics: what a program's run and its unit's come to: neither shows what the other doesn't, both ways.
-/
namespace Go.Proofs.YtoepcplbpochpaaDoor
open Go.RowKit

/-- The numbers of the Stops. -/
def nosOf (l : List Sn) : List Int := l.map Sn.no
/-- The second run shows what the first does, and perhaps more; if the first has ended, the second has ended likewise. -/
structure Going (a b : St) : Prop where
  outs : ∃ o, b.outs = a.outs ++ o
  stops : ∃ o, nosOf b.stops = nosOf a.stops ++ o
  fin : a.kind ≠ 2 → b.kind = a.kind ∧ b.val = a.val ∧ b.outs.length = a.outs.length ∧ b.stops.length = a.stops.length
theorem nos_app (a b : List Sn) : nosOf (a ++ b) = nosOf a ++ nosOf b := List.map_append
theorem nos_len (a : List Sn) : (nosOf a).length = a.length := List.length_map _
theorem rel_nos {L : List In4} {V : Nat} : ∀ {a b : List Sn} {c : List Nat}, Rel3 (Stopped L V) a b c → nosOf a = nosOf b
  | [], [], [], _ => rfl
  | x :: a, y :: b, _ :: _, ⟨h1, h2⟩ => by show x.no :: nosOf a = y.no :: nosOf b; rw [h1.no, rel_nos h2]
  | [], [], _ :: _, h => h.elim
  | [], _ :: _, _, h => h.elim
  | _ :: _, [], _, h => h.elim
  | _ :: _, _ :: _, [], h => h.elim
/-- More fuel. -/
theorem going_more (C : List In4) {t : St} (ht : t.on = true) (hk : t.kind = 2) (hv : t.val = 0) (m d : Nat) : Going (runSt C m t) (runSt C (m + d) t) ∧ ((runSt C m t).kind ≠ 2 → runSt C (m + d) t = runSt C m t) := by
  rw [run_add]
  obtain ⟨⟨o1, h1⟩, ⟨o2, h2⟩⟩ := run_pre C d (runSt C m t)
  have hoff : (runSt C m t).kind ≠ 2 → runSt C d (runSt C m t) = runSt C m t := fun hne => by
    obtain ⟨_, _, h3⟩ := run_gen C m t ht hk hv
    rcases h3 with ⟨_, h3, _⟩ | ⟨h3, _⟩
    · exact absurd h3 hne
    · exact run_off _ _ _ h3
  exact ⟨⟨⟨o1, h1⟩, ⟨nosOf o2, by rw [h2, nos_app]⟩, fun hne => by rw [hoff hne]; exact ⟨rfl, rfl, rfl, rfl⟩⟩, hoff⟩
/-- What each Stop of the program's run shows, in the unit's run too. -/
def AllStops (L : List In4) (V : Nat) (pl : List Nat) (s t : St) : Prop := ∀ n, n < s.stops.length → ∃ x y i, t.stops[n]? = some x ∧ s.stops[n]? = some y ∧ pl[n]? = some i ∧ Stopped L V i x y
/-- From the program to the unit. -/
theorem sim_fwd {P R V K : Nat} {L : List In4} (hp : RightP P R V L) (hK : 2 ≤ K) (hK' : K ≤ 16) (tv : Option Value) (xs : List Int) (hx : xs.length = P) (hxs : ∀ i, 0 ≤ nth xs i ∧ nth xs i ≤ 65535) (q : Nat) :
    Going (runSt L q (st0 xs)) (runSt (cmpC P R K L) (4 * q + 4) (stU (cmpR P R V K L) tv xs)) ∧ AllStops L V (plSt L q (st0 xs)) (runSt L q (st0 xs)) (runSt (cmpC P R K L) (4 * q + 4) (stU (cmpR P R V K L) tv xs)) ∧ (plSt L q (st0 xs)).length = (runSt L q (st0 xs)).stops.length := by
  obtain ⟨j, hj, _, h⟩ := both_all hp hK hK' tv xs hx hxs q
  rw [show 4 * q + 4 = j + (4 * q + 4 - j) by omega, run_add]
  generalize 4 * q + 4 - j = d
  obtain ⟨⟨o1, h1⟩, ⟨o2, h2⟩⟩ := run_pre (cmpC P R K L) d (runSt (cmpC P R K L) j (stU (cmpR P R V K L) tv xs))
  have hr := h.sim.stops
  have hl := Rel3.len hr
  refine ⟨⟨⟨o1, by rw [h1, h.sim.outs]⟩, ⟨nosOf o2, by rw [h2, nos_app, rel_nos hr]⟩, fun hne => ?_⟩, fun n hn => ?_, hl.2⟩
  · have hoff : (runSt L q (st0 xs)).on = false := by
      cases e : (runSt L q (st0 xs)).on with
      | false => rfl
      | true => exact absurd (h.ok.kind e).1 hne
    rw [run_off _ _ _ (h.sim.on.trans hoff)]
    exact ⟨h.sim.kind, h.sim.val, by rw [h.sim.outs], hl.1⟩
  · obtain ⟨x, y, i, e1, e2, e3, e4⟩ := Rel3.at hr n hn
    refine ⟨x, y, i, ?_, e2, e3, e4⟩
    rw [h2, List.getElem?_append_left (by omega)]; exact e1
/-- From the unit to the program. -/
theorem sim_bwd {P R V K : Nat} {L : List In4} (hp : RightP P R V L) (hK : 2 ≤ K) (hK' : K ≤ 16) (tv : Option Value) (xs : List Int) (hx : xs.length = P) (hxs : ∀ i, 0 ≤ nth xs i ∧ nth xs i ≤ 65535) (m : Nat) :
    Going (runSt (cmpC P R K L) m (stU (cmpR P R V K L) tv xs)) (runSt L (40 * m + 40) (st0 xs)) := by
  obtain ⟨j, hj, hb, h⟩ := both_all hp hK hK' tv xs hx hxs (40 * m + 40)
  have hr := h.sim.stops
  have hl := Rel3.len hr
  have h40 := hp.n40
  obtain ⟨_, _, hg⟩ := run_gen (cmpC P R K L) m (stU (cmpR P R V K L) tv xs) rfl rfl rfl
  have hmoff : (runSt (cmpC P R K L) m (stU (cmpR P R V K L) tv xs)).kind ≠ 2 → (runSt (cmpC P R K L) m (stU (cmpR P R V K L) tv xs)).on = false := fun hne => by
    rcases hg with ⟨_, h3, _⟩ | ⟨h3, _⟩
    · exact absurd h3 hne
    · exact h3
  by_cases hjm : j ≤ m
  · -- the unit has ended
    have hoff : (runSt L (40 * m + 40) (st0 xs)).on = false := by
      cases e : (runSt L (40 * m + 40) (st0 xs)).on with
      | false => rfl
      | true => have := hb e; have := h.ok.at_ e; omega
    have e : runSt (cmpC P R K L) m (stU (cmpR P R V K L) tv xs) = runSt (cmpC P R K L) j (stU (cmpR P R V K L) tv xs) := by
      rw [show m = j + (m - j) by omega, run_add, run_off _ _ _ (h.sim.on.trans hoff)]
    rw [e]
    exact ⟨⟨[], by rw [List.append_nil, h.sim.outs]⟩, ⟨[], by rw [List.append_nil, rel_nos hr]⟩, fun _ => ⟨h.sim.kind.symm, h.sim.val.symm, by rw [h.sim.outs], hl.1.symm⟩⟩
  · have e : runSt (cmpC P R K L) j (stU (cmpR P R V K L) tv xs) = runSt (cmpC P R K L) (j - m) (runSt (cmpC P R K L) m (stU (cmpR P R V K L) tv xs)) := by
      rw [← run_add, show m + (j - m) = j by omega]
    obtain ⟨⟨o1, h1⟩, ⟨o2, h2⟩⟩ := run_pre (cmpC P R K L) (j - m) (runSt (cmpC P R K L) m (stU (cmpR P R V K L) tv xs))
    rw [← e] at h1 h2
    refine ⟨⟨o1, by rw [← h1, h.sim.outs]⟩, ⟨nosOf o2, by rw [← nos_app, ← h2, rel_nos hr]⟩, fun hne => ?_⟩
    rw [run_off _ _ _ (hmoff hne)] at e
    rw [← e]
    exact ⟨h.sim.kind.symm, h.sim.val.symm, by rw [h.sim.outs], hl.1.symm⟩
/-- Each Stop of the unit's run is one of the program's. -/
theorem sim_bwd_stops {P R V K : Nat} {L : List In4} (hp : RightP P R V L) (hK : 2 ≤ K) (hK' : K ≤ 16) (tv : Option Value) (xs : List Int) (hx : xs.length = P) (hxs : ∀ i, 0 ≤ nth xs i ∧ nth xs i ≤ 65535) (m : Nat) :
    ∀ n, n < (runSt (cmpC P R K L) m (stU (cmpR P R V K L) tv xs)).stops.length → ∃ x y i, (runSt (cmpC P R K L) m (stU (cmpR P R V K L) tv xs)).stops[n]? = some x ∧ (runSt L (40 * m + 40) (st0 xs)).stops[n]? = some y ∧ (plSt L (40 * m + 40) (st0 xs))[n]? = some i ∧ Stopped L V i x y := by
  intro n hn
  have hg := sim_bwd hp hK hK' tv xs hx hxs m
  obtain ⟨o, ho⟩ := hg.stops
  have hlen : (runSt (cmpC P R K L) m (stU (cmpR P R V K L) tv xs)).stops.length ≤ (runSt L (40 * m + 40) (st0 xs)).stops.length := by
    have := congrArg List.length ho
    rw [nos_len, List.length_append, nos_len] at this
    omega
  obtain ⟨_, ha, _⟩ := sim_fwd hp hK hK' tv xs hx hxs (40 * m + 40)
  obtain ⟨x, y, i, e1, e2, e3, e4⟩ := ha n (by omega)
  refine ⟨x, y, i, ?_, e2, e3, e4⟩
  obtain ⟨_, o2, h2⟩ := run_pre (cmpC P R K L) (4 * (40 * m + 40) + 4 - m) (runSt (cmpC P R K L) m (stU (cmpR P R V K L) tv xs))
  rw [← run_add, show m + (4 * (40 * m + 40) + 4 - m) = 4 * (40 * m + 40) + 4 by omega] at h2
  rw [h2, List.getElem?_append_left hn] at e1
  exact e1
end Go.Proofs.YtoepcplbpochpaaDoor

/-
  What Compile answers where there is no unit: the error, and the zero unit.
-/
namespace Go.Proofs.YtoepcplbpochpaaDoor
open Go.RowKit

def zUnit : Value := .agg #[.int .i64 0, .int .i64 0, .int .i64 0, .int .i64 0, .slice none 0 0, .string ⟨#[]⟩]
theorem below6 {w w2 : World} {g : Nat} (h : Below w.heap.size w w2) (hg : w.heap.size ≤ g) (a b c d e f : Value) : Below w.heap.size w ((((((w2.setCell ⟨g, 0, none⟩ a).setCell ⟨g, 1, none⟩ b).setCell ⟨g, 2, none⟩ c).setCell ⟨g, 3, none⟩ d).setCell ⟨g, 4, none⟩ e).setCell ⟨g, 5, none⟩ f) :=
  (((((h.setCell (p := ⟨g, 0, none⟩) hg _).setCell (p := ⟨g, 1, none⟩) hg _).setCell (p := ⟨g, 2, none⟩) hg _).setCell (p := ⟨g, 3, none⟩) hg _).setCell (p := ⟨g, 4, none⟩) hg _).setCell (p := ⟨g, 5, none⟩) hg _
/-- The error of Compile. -/
def cmpE (P R V K : Int) (L : List In4) : Int := if (progE P R V L).1 ≠ 0 then (progE P R V L).1 else if K < 2 ∨ 16 < K then 15 else 0

set_option maxRecDepth 100000 in
set_option maxHeartbeats 8000000 in
theorem compile_wrong (P R V K : Int) (L : List In4) (ao : Option Addr) (cap : Nat) (w : World) (hH : HeldIns w ao L) (hn : L.length ≤ 9223372036854775807) (hT : Tab w) (hw0 : 0 < w.heap.size) (hE : cmpE P R V K L ≠ 0) :
    Calls Tryd.prog 27 #[.agg #[.int .i64 P, .int .i64 R, .int .i64 V, .slice ao L.length cap], .int .i64 K] w fun e w' => e = .returned (.tuple #[zUnit, .int .i64 (cmpE P R V K L)]) ∧ Below w.heap.size w w' := by
  have KC := hide (fun w (hH : HeldIns w ao L) (hT : Tab w) (hw0 : 0 < w.heap.size) => irCheck_any P R V L ao cap w hH hn hT hw0)
  obtain ⟨w1, hw1, HP1, HR1, HL1, hz1⟩ := open_cmp w P R V (.slice ao L.length cap)
  have HW := hide hw1
  have HH := hide hH
  have HT := hide hT
  have HE := hide (show cmpE P R V K L = if (progE P R V L).1 ≠ 0 then (progE P R V L).1 else if K < 2 ∨ 16 < K then 15 else 0 from rfl)
  have HEN := hide hE
  obtain ⟨e1, he1⟩ : ∃ e, e = (progE P R V L).1 := ⟨_, rfl⟩
  obtain ⟨e2, he2⟩ : ∃ e, e = (progE P R V L).2 := ⟨_, rfl⟩
  rw [← he1, ← he2] at KC
  rw [← he1] at HE
  clear hw1 hH hT hE he1 he2
  go_enter Tryd.func27, Tryd.ntmps27
  go_upto_region 1 with fail
  rw [← unhide HW]
  have p0 := (unhide HP1).c0
  have p1 := (unhide HP1).c1
  have p2 := (unhide HP1).c2
  have p3 := (unhide HP1).c3
  go_wp2_with fail
  refine (unhide KC w1 ((unhide HH).below (unhide HL1)) ((unhide HT).below (unhide HL1) hw0) (by omega)).mono ?_
  rintro e w2 ⟨rfl, hb2⟩
  have HR2 : Hid (w2.heap[w.heap.size + 1]? = some (.cells #[.int .i64 0, .int .i64 0, .int .i64 0, .int .i64 0, .slice none 0 0, .string ⟨#[]⟩] 26 (0, 0))) := (hb2.block _ hz1).trans (unhide HR1)
  have HL2 : Hid (Below w.heap.size w w2) := (unhide HL1).trans (hb2.mono (unhide HL1).size)
  clear hb2 p0 p1 p2 p3 HP1 HR1 HL1 hz1 KC HW
  have r0 : w2.cell? ⟨w.heap.size + 1, 0, none⟩ = some (.int .i64 0) := (cell_of_row w2 _ 0 _ 26 (0, 0) (unhide HR2)).trans rfl
  have r1 : w2.cell? ⟨w.heap.size + 1, 1, none⟩ = some (.int .i64 0) := (cell_of_row w2 _ 1 _ 26 (0, 0) (unhide HR2)).trans rfl
  have r2 : w2.cell? ⟨w.heap.size + 1, 2, none⟩ = some (.int .i64 0) := (cell_of_row w2 _ 2 _ 26 (0, 0) (unhide HR2)).trans rfl
  have r3 : w2.cell? ⟨w.heap.size + 1, 3, none⟩ = some (.int .i64 0) := (cell_of_row w2 _ 3 _ 26 (0, 0) (unhide HR2)).trans rfl
  have r4 : w2.cell? ⟨w.heap.size + 1, 4, none⟩ = some (.slice none 0 0) := (cell_of_row w2 _ 4 _ 26 (0, 0) (unhide HR2)).trans rfl
  have r5 : w2.cell? ⟨w.heap.size + 1, 5, none⟩ = some (.string ⟨#[]⟩) := (cell_of_row w2 _ 5 _ 26 (0, 0) (unhide HR2)).trans rfl
  have rf : ∀ o, w2.frozen? ⟨w.heap.size + 1, o, none⟩ = false := fun o => by have h := unhide HR2; simp [World.frozen?, h]
  by_cases h1 : e1 = 0
  case neg =>
    have g1 : (e1 != 0) = true := by rw [bne_iff_ne]; exact h1
    have HR := hide (show cmpE P R V K L = e1 by rw [unhide HE, if_pos h1])
    clear h1
    go_wp2_with fail
    refine bodyPost_ret (results_unit rfl _ _ (w.heap.size + 1) _ rfl (set6 (unhide HR2) _ _ _ _ _ _) rfl) rfl ?_
    exact ⟨by rw [unhide HR]; rfl, below6 (unhide HL2) (by omega) _ _ _ _ _ _⟩
  subst h1
  have hK : K < 2 ∨ 16 < K := by
    have h := unhide HE
    rw [if_neg (fun h => h rfl)] at h
    by_cases hk : K < 2 ∨ 16 < K
    · exact hk
    · rw [if_neg hk] at h; exact absurd h (unhide HEN)
  have HR := hide (show cmpE P R V K L = 15 by rw [unhide HE, if_neg (fun h => h rfl), if_pos hK])
  rcases (show K < 2 ∨ (2 ≤ K ∧ 16 < K) by omega) with hk | ⟨hk, hk'⟩
  all_goals
    clear hK
    go_wp2_with fail
    refine bodyPost_ret (results_unit rfl _ _ (w.heap.size + 1) _ rfl (set6 (unhide HR2) _ _ _ _ _ _) rfl) rfl ?_
    exact ⟨by rw [unhide HR]; rfl, below6 (unhide HL2) (by omega) _ _ _ _ _ _⟩
end Go.Proofs.YtoepcplbpochpaaDoor

/-
  What lodgeref.ops computes: which Ops there are, of a program or of a unit.
-/
namespace Go.Proofs.YtoepcplbpochpaaDoor
open Go.RowKit

theorem make17 (w : World) : (Instr.makeSlice 59 (.int .i64 17) (.int .i64 17)).run Tryd.prog w = .ok (.slice (some ⟨w.heap.size, 0, none⟩) 17 17)
    (w.alloc (.cells #[.bool false, .bool false, .bool false, .bool false, .bool false, .bool false, .bool false, .bool false, .bool false, .bool false, .bool false, .bool false, .bool false, .bool false, .bool false, .bool false, .bool false] 4)) := by kernel_rfl

set_option maxRecDepth 100000 in
set_option maxHeartbeats 4000000 in
theorem ops_any (p : Bool) (w : World) :
    Calls Tryd.prog 44 #[.bool p] w fun e w' => e = .returned (.slice (some ⟨w.heap.size, 0, none⟩) 17 17) ∧ w' = w.alloc (.cells (opsA p) 4) := by
  have hmk := make17
  cases p
  all_goals
    go_enter Tryd.func44, Tryd.ntmps44
    go_wp2
    refine wp_loop_rounds 18 ?_
    iterate 17 (rw [rounds_succ]; go_wp2)
    rw [rounds_succ]
    go_wp2
    go_ret
    exact ⟨rfl, rfl⟩
end Go.Proofs.YtoepcplbpochpaaDoor
