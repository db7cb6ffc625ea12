/-
  Plain mathematics of a run: what a right program keeps to, and that a run of it stays within.
-/
import Derived.Test.YtoepcplbpochpaaDoorUnit2

namespace Go.Proofs.YtoepcplbpochpaaDoor
open Go.RowKit

theorem right_of_insE (x : In4) (R n V : Int) (h : insE true x R n V 0 = 0) : Right R n V x ∧ x.op ≤ 14 := by
  unfold insE at h
  by_cases ho : ¬ (0 ≤ x.op ∧ x.op < 17 ∧ opB true x.op.toNat = true)
  · rw [if_pos ho] at h; cases h
  rw [if_neg ho] at h
  have ho' := Classical.not_not.1 ho
  obtain ⟨o0, o17, ob⟩ := ho'
  obtain ⟨o, hop⟩ : ∃ o : Nat, x.op = (o : Int) := ⟨x.op.toNat, by omega⟩
  rw [hop, Int.toNat_natCast] at h ob
  have ho14 : o < 15 := by
    rcases Nat.lt_or_ge o 15 with h | h
    · exact h
    · exfalso
      have : opB true o = false := by unfold opB; simp; omega
      rw [this] at ob; cases ob
  have key : ∀ a b c : Int, (if a ≠ 0 then a else if b ≠ 0 then b else c) = 0 → a = 0 ∧ b = 0 ∧ c = 0 := fun a b c h => by
    by_cases ha : a = 0
    · by_cases hb : b = 0
      · rw [if_neg (fun k => k ha), if_neg (fun k => k hb)] at h; exact ⟨ha, hb, h⟩
      · rw [if_neg (fun k => k ha), if_pos hb] at h; exact absurd h hb
    · rw [if_pos ha] at h; exact absurd h ha
  obtain ⟨h1, h2, h3⟩ := key _ _ _ h
  clear h key ho ob
  obtain ⟨op, d, a, b⟩ := x
  simp only at *
  subst hop
  have f0 : ∀ (m r k v s : Int), fieldE 114 m r k v s = 0 → 0 ≤ m ∧ m < r := fun m r k v s h => by
    unfold fieldE at h; simp at h; omega
  have fc : ∀ (m r k v s : Int), fieldE 99 m r k v s = 0 → 0 ≤ m ∧ m ≤ 65535 := fun m r k v s h => by
    unfold fieldE at h; simp at h; omega
  have ft : ∀ (m r k v s : Int), fieldE 116 m r k v s = 0 → 0 ≤ m ∧ m < k := fun m r k v s h => by
    unfold fieldE at h; simp at h; omega
  have fs : ∀ (m r k v s : Int), fieldE 115 m r k v s = 0 → 0 ≤ m ∧ m ≤ 99 := fun m r k v s h => by
    unfold fieldE at h; simp at h; omega
  have fv : ∀ (m r k v s : Int), fieldE 118 m r k v s = 0 → 0 ≤ m ∧ m < v := fun m r k v s h => by
    unfold fieldE at h; simp at h; omega
  unfold Right
  simp only
  rcases (show o = 0 ∨ o = 1 ∨ o = 2 ∨ o = 3 ∨ o = 4 ∨ o = 5 ∨ o = 6 ∨ o = 7 ∨ o = 8 ∨ o = 9 ∨ o = 10 ∨ o = 11 ∨ o = 12 ∨ o = 13 ∨ o = 14 by omega) with rfl | rfl | rfl | rfl | rfl | rfl | rfl | rfl | rfl | rfl | rfl | rfl | rfl | rfl | rfl
  · have g1 := f0 _ _ _ _ _ h1; have g2 := fc _ _ _ _ _ h2; omega
  · have g1 := f0 _ _ _ _ _ h1; have g2 := f0 _ _ _ _ _ h2; omega
  · have g1 := f0 _ _ _ _ _ h1; have g2 := f0 _ _ _ _ _ h2; have g3 := f0 _ _ _ _ _ h3; omega
  · have g1 := f0 _ _ _ _ _ h1; have g2 := f0 _ _ _ _ _ h2; have g3 := f0 _ _ _ _ _ h3; omega
  · have g1 := f0 _ _ _ _ _ h1; have g2 := f0 _ _ _ _ _ h2; have g3 := f0 _ _ _ _ _ h3; omega
  · have g1 := f0 _ _ _ _ _ h1; have g2 := f0 _ _ _ _ _ h2; have g3 := f0 _ _ _ _ _ h3; omega
  · have g1 := f0 _ _ _ _ _ h1; have g2 := f0 _ _ _ _ _ h2; have g3 := f0 _ _ _ _ _ h3; omega
  · have g2 := ft _ _ _ _ _ h2; omega
  · have g2 := f0 _ _ _ _ _ h2; have g3 := ft _ _ _ _ _ h3; omega
  · have g2 := f0 _ _ _ _ _ h2; omega
  · have g2 := f0 _ _ _ _ _ h2; omega
  · have g2 := fs _ _ _ _ _ h2; omega
  · have g1 := fv _ _ _ _ _ h1; have g2 := f0 _ _ _ _ _ h2; omega
  · have g1 := fv _ _ _ _ _ h1; have g2 := fc _ _ _ _ _ h2; omega
  · have g1 := fv _ _ _ _ _ h1; omega

theorem codedFrom_ok (p : Bool) (L : List In4) (r v s : Int) : ∀ (m k : Nat), k + m = L.length → (codedFrom p L r v s k m).1 = 0 → (∀ i, k ≤ i → i < L.length → insE p (inAt L i) r L.length v s = 0) ∧ ((inAt L (L.length - 1)).op = 7 ∨ (inAt L (L.length - 1)).op = 10)
  | 0, k, hk, h => by
    refine ⟨fun i h1 h2 => by omega, ?_⟩
    unfold codedFrom at h
    by_cases hc : (inAt L (L.length - 1)).op ≠ 7 ∧ (inAt L (L.length - 1)).op ≠ 10
    · rw [if_pos hc] at h; cases h
    · omega
  | m + 1, k, hk, h => by
    unfold codedFrom at h
    by_cases hc : insE p (inAt L k) r L.length v s ≠ 0
    · rw [if_pos hc] at h; exact absurd h hc
    · rw [if_neg hc] at h
      obtain ⟨h1, h2⟩ := codedFrom_ok p L r v s m (k + 1) (by omega) h
      refine ⟨fun i hi hl => ?_, h2⟩
      by_cases hik : i = k
      · subst hik; exact Classical.not_not.1 hc
      · exact h1 i (by omega) hl

/-- What a right program keeps to. -/
structure RightP (P R V : Int) (L : List In4) : Prop where
  r1 : 1 ≤ R
  r12 : R ≤ 12
  p0 : 0 ≤ P
  p4 : P ≤ 4
  pr : P ≤ R
  v0 : 0 ≤ V
  v4 : V ≤ 4
  n1 : 1 ≤ L.length
  n40 : L.length ≤ 40
  ins : ∀ i, i < L.length → Right R L.length V (inAt L i)
  last : (inAt L (L.length - 1)).op = 7 ∨ (inAt L (L.length - 1)).op = 10
  low : ∀ i, i < L.length → (inAt L i).op ≤ 14
theorem rightP_of (P R V : Int) (L : List In4) (h : (progE P R V L).1 = 0) : RightP P R V L := by
  by_cases hs : SizeBad P R V L.length
  · rw [progE_bad hs] at h; cases h
  · rw [progE_good hs] at h
    obtain ⟨h1, h2⟩ := codedFrom_ok true L R V 0 L.length 0 (by omega) h
    unfold SizeBad at hs
    exact ⟨by omega, by omega, by omega, by omega, by omega, by omega, by omega, by omega, by omega, fun i hi => (right_of_insE _ _ _ _ (h1 i (Nat.zero_le _) hi)).1, h2, fun i hi => (right_of_insE _ _ _ _ (h1 i (Nat.zero_le _) hi)).2⟩

/-- What a run keeps to. -/
structure StOk (L : List In4) (V : Int) (s : St) : Prop where
  at_ : s.on = true → s.at_ < L.length
  regs : ∀ i, 0 ≤ s.regs i ∧ s.regs i ≤ 65535
  vars : ∀ i : Nat, V ≤ (i : Int) → s.vars i = -1
  outs : s.outs.length ≤ s.steps
  stops : s.stops.length ≤ s.steps
  kind : s.on = true → s.kind = 2 ∧ s.val = 0
  env : s.env = progEnv

theorem reach_ok (op a b : Int) (ha : 0 ≤ a ∧ a ≤ 65535) (hb : 0 ≤ b ∧ b ≤ 65535) : reachE op a b = -1 ∨ (0 ≤ reachE op a b ∧ reachE op a b ≤ 65535) := by
  unfold reachE
  by_cases h2 : op = 2
  · rw [if_pos h2]; omega
  rw [if_neg h2]
  by_cases h3 : op = 3
  · rw [if_pos h3]; omega
  rw [if_neg h3]
  by_cases h4 : op = 4
  · rw [if_pos h4]; right; generalize a * b = q; omega
  rw [if_neg h4]
  by_cases h5 : op = 5
  · rw [if_pos h5]
    by_cases h0 : b = 0
    · rw [if_pos h0]; exact .inl rfl
    · rw [if_neg h0]
      have g0 : 0 ≤ a / b := Int.ediv_nonneg ha.1 hb.1
      have g1 : a / b ≤ a := Int.ediv_le_self _ ha.1
      right; generalize a / b = q at g0 g1; omega
  rw [if_neg h5]
  by_cases h : a < b
  · rw [if_pos h]; omega
  · rw [if_neg h]; omega

theorem upd_ok (f : Nat → Int) (d : Nat) (v : Int) (hf : ∀ i, 0 ≤ f i ∧ f i ≤ 65535) (hv : 0 ≤ v ∧ v ≤ 65535) : ∀ i, 0 ≤ upd f d v i ∧ upd f d v i ≤ 65535 := fun i => by
  unfold upd; split
  · exact hv
  · exact hf i

/-- A step keeps to it, and counts one. -/
theorem step_ok {P R V : Int} {L : List In4} (hp : RightP P R V L) {s : St} (h : StOk L V s) (hon : s.on = true) : StOk L V (stepSt (inAt L s.at_) s) ∧ (stepSt (inAt L s.at_) s).steps = s.steps + 1 := by
  have hat := h.at_ hon
  have hx := hp.ins s.at_ hat
  have hlow := hp.low s.at_ hat
  have hlast := hp.last
  obtain ⟨x, hxe⟩ : ∃ x, x = inAt L s.at_ := ⟨_, rfl⟩
  have hne : x.op ≠ 7 → x.op ≠ 10 → s.at_ + 1 < L.length := fun h7 h10 => by
    rcases Nat.lt_or_ge (s.at_ + 1) L.length with h | h
    · exact h
    · exfalso
      have : L.length - 1 = s.at_ := by omega
      rw [this, ← hxe] at hlast
      rcases hlast with h | h
      · exact h7 h
      · exact h10 h
  rw [← hxe] at hx hlow ⊢
  clear hlast hxe
  obtain ⟨o0, _, rD, rA, rB, rC, rJ, rI, rS, rV, _, _⟩ := hx
  have hk := h.kind hon
  have hok : ∀ s' : St, (s'.on = true → s'.at_ < L.length) → (∀ i, 0 ≤ s'.regs i ∧ s'.regs i ≤ 65535) → (∀ i : Nat, V ≤ (i : Int) → s'.vars i = -1) → s'.outs.length ≤ s'.steps → s'.stops.length ≤ s'.steps → (s'.on = true → s'.kind = 2 ∧ s'.val = 0) → s'.steps = s.steps + 1 → s'.env = s.env → StOk L V s' ∧ s'.steps = s.steps + 1 :=
    fun s' a b c d e f g k => ⟨⟨a, b, c, d, e, f, k.trans h.env⟩, g⟩
  have ho := h.outs
  have hs := h.stops
  unfold stepSt
  rcases (show x.op = 0 ∨ x.op = 1 ∨ (2 ≤ x.op ∧ x.op ≤ 6) ∨ x.op = 7 ∨ x.op = 8 ∨ x.op = 9 ∨ x.op = 10 ∨ x.op = 11 ∨ x.op = 12 ∨ x.op = 13 ∨ x.op = 14 by omega) with e | e | e | e | e | e | e | e | e | e | e
  · have : doSt x (preSt x s) = s.next.reg x.d.toNat x.a := by
      unfold preSt; rw [if_neg (by omega), if_neg (by omega), if_neg (by omega), if_neg (by omega), if_neg (by omega), if_neg (by omega)]; unfold doSt; rw [if_pos e]
    rw [this]
    exact hok _ (fun _ => hne (by omega) (by omega)) (upd_ok _ _ _ h.regs (rC (.inl e))) h.vars (Nat.le_succ_of_le ho) (Nat.le_succ_of_le hs) (fun _ => hk) rfl rfl
  · have : doSt x (preSt x s) = s.next.reg x.d.toNat (s.regs x.a.toNat) := by
      unfold preSt; rw [if_neg (by omega), if_neg (by omega), if_neg (by omega), if_neg (by omega), if_neg (by omega), if_neg (by omega)]; unfold doSt; rw [if_neg (by omega), if_pos e]
    rw [this]
    exact hok _ (fun _ => hne (by omega) (by omega)) (upd_ok _ _ _ h.regs (h.regs _)) h.vars (Nat.le_succ_of_le ho) (Nat.le_succ_of_le hs) (fun _ => hk) rfl rfl
  · have : doSt x (preSt x s) = s.next.reckon x.op x.d.toNat x.a.toNat x.b.toNat := by
      unfold preSt; rw [if_neg (by omega), if_neg (by omega), if_neg (by omega), if_neg (by omega), if_neg (by omega), if_neg (by omega)]; unfold doSt
      rw [if_neg (by omega), if_neg (by omega), if_neg (by omega), if_neg (by omega), if_neg (by omega), if_neg (by omega), if_pos e]
    rw [this]
    unfold St.reckon
    rcases reach_ok x.op (s.regs x.a.toNat) (s.regs x.b.toNat) (h.regs _) (h.regs _) with hr | hr
    · rw [if_pos (by show reachE x.op (s.regs x.a.toNat) (s.regs x.b.toNat) < 0; omega)]
      exact hok _ (fun k => by cases k) h.regs h.vars (Nat.le_succ_of_le ho) (Nat.le_succ_of_le hs) (fun k => by cases k) rfl rfl
    · rw [if_neg (by show ¬ reachE x.op (s.regs x.a.toNat) (s.regs x.b.toNat) < 0; omega)]
      exact hok _ (fun _ => hne (by omega) (by omega)) (upd_ok _ _ _ h.regs hr) h.vars (Nat.le_succ_of_le ho) (Nat.le_succ_of_le hs) (fun _ => hk) rfl rfl
  · have : doSt x (preSt x s) = s.next.goto x.a.toNat := by
      unfold preSt; rw [if_neg (by omega), if_neg (by omega), if_neg (by omega), if_neg (by omega), if_neg (by omega), if_neg (by omega)]; unfold doSt; rw [if_neg (by omega), if_neg (by omega), if_pos e]
    rw [this]
    exact hok _ (fun _ => by have := rJ e; show x.a.toNat < L.length; omega) h.regs h.vars (Nat.le_succ_of_le ho) (Nat.le_succ_of_le hs) (fun _ => hk) rfl rfl
  · have : doSt x (preSt x s) = if s.regs x.a.toNat = 0 then s.next else s.next.goto x.b.toNat := by
      unfold preSt; rw [if_neg (by omega), if_neg (by omega), if_neg (by omega), if_neg (by omega), if_neg (by omega), if_neg (by omega)]; unfold doSt; rw [if_neg (by omega), if_neg (by omega), if_neg (by omega), if_pos e]
    rw [this]
    by_cases hz : s.regs x.a.toNat = 0
    · rw [if_pos hz]
      exact hok _ (fun _ => hne (by omega) (by omega)) h.regs h.vars (Nat.le_succ_of_le ho) (Nat.le_succ_of_le hs) (fun _ => hk) rfl rfl
    · rw [if_neg hz]
      exact hok _ (fun _ => by have := rI e; show x.b.toNat < L.length; omega) h.regs h.vars (Nat.le_succ_of_le ho) (Nat.le_succ_of_le hs) (fun _ => hk) rfl rfl
  · have : doSt x (preSt x s) = s.next.out (s.regs x.a.toNat) := by
      unfold preSt; rw [if_neg (by omega), if_neg (by omega), if_neg (by omega), if_neg (by omega), if_neg (by omega), if_neg (by omega)]; unfold doSt; rw [if_neg (by omega), if_neg (by omega), if_neg (by omega), if_neg (by omega), if_pos e]
    rw [this]
    exact hok _ (fun _ => hne (by omega) (by omega)) h.regs h.vars (by show (s.outs ++ [_]).length ≤ s.steps + 1; rw [List.length_append]; exact Nat.succ_le_succ ho) (Nat.le_succ_of_le hs) (fun _ => hk) rfl rfl
  · have : doSt x (preSt x s) = s.next.ended 0 (s.regs x.a.toNat) := by
      unfold preSt; rw [if_neg (by omega), if_neg (by omega), if_neg (by omega), if_neg (by omega), if_neg (by omega), if_neg (by omega)]; unfold doSt; rw [if_neg (by omega), if_neg (by omega), if_neg (by omega), if_neg (by omega), if_neg (by omega), if_pos e]
    rw [this]
    exact hok _ (fun k => by cases k) h.regs h.vars (Nat.le_succ_of_le ho) (Nat.le_succ_of_le hs) (fun k => by cases k) rfl rfl
  all_goals
    have hd : ∀ s', doSt x s' = s'.next := fun s' => by
      unfold doSt; rw [if_neg (by omega), if_neg (by omega), if_neg (by omega), if_neg (by omega), if_neg (by omega), if_neg (by omega), if_neg (by omega)]
    rw [hd]
    unfold preSt
  · rw [if_pos e]
    exact hok _ (fun _ => hne (by omega) (by omega)) h.regs h.vars (Nat.le_succ_of_le ho) (by show (s.stops ++ [_]).length ≤ s.steps + 1; rw [List.length_append]; exact Nat.succ_le_succ hs) (fun _ => hk) rfl rfl
  · rw [if_neg (by omega), if_pos e]
    exact hok _ (fun _ => hne (by omega) (by omega)) h.regs (fun i hi => by have := rV (by omega); show upd s.vars x.d.toNat _ i = -1; rw [upd_other _ _ (by omega)]; exact h.vars i hi) (Nat.le_succ_of_le ho) (Nat.le_succ_of_le hs) (fun _ => hk) rfl rfl
  · rw [if_neg (by omega), if_neg (by omega), if_pos e]
    exact hok _ (fun _ => hne (by omega) (by omega)) h.regs (fun i hi => by have := rV (by omega); show upd s.vars x.d.toNat _ i = -1; rw [upd_other _ _ (by omega)]; exact h.vars i hi) (Nat.le_succ_of_le ho) (Nat.le_succ_of_le hs) (fun _ => hk) rfl rfl
  · rw [if_neg (by omega), if_neg (by omega), if_neg (by omega), if_pos e]
    exact hok _ (fun _ => hne (by omega) (by omega)) h.regs (fun i hi => by have := rV (by omega); show upd s.vars x.d.toNat _ i = -1; rw [upd_other _ _ (by omega)]; exact h.vars i hi) (Nat.le_succ_of_le ho) (Nat.le_succ_of_le hs) (fun _ => hk) rfl rfl

theorem run_off (L : List In4) (m : Nat) (s : St) (h : s.on = false) : runSt L m s = s := by
  cases m with
  | zero => rfl
  | succ m => unfold runSt; rw [h]; rfl
theorem run_on {L : List In4} {m : Nat} {s : St} (hm : 0 < m) (h : s.on = true) : runSt L m s = runSt L (m - 1) (stepSt (inAt L s.at_) s) := by
  obtain ⟨k, rfl⟩ : ∃ k, m = k + 1 := ⟨m - 1, by omega⟩
  show (if s.on then _ else _) = _
  rw [h]; rfl

/-- The answer of a run: its error, and what it came to. -/
def zst : St := ⟨0, fun _ => 0, fun _ => 0, false, 0, 0, 0, [], [], progEnv⟩
end Go.Proofs.YtoepcplbpochpaaDoor
