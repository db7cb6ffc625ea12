/-
  Plain mathematics of a run: what a right program keeps to, and that a run of it stays within.
-/
import Derived.Test.YtoepcplbpochpabDoorPart2
import Derived.Test.YtoepcplbpochpabDoorPart8

namespace Go.Proofs.YtoepcplbpochpabDoor
open Go.RowKit

theorem right_of_insE (x : In4) (R n V : Int) (h : insE true x R n V 0 = 0) : Right R n V x ∧ x.op ≤ 14 := by
  unfold insE at h
  by_cases ho : ¬ (0 ≤ x.op ∧ x.op < 17 ∧ opB true x.op.toNat = true)
  · rw [if_pos ho] at h; cases h
  rw [if_neg ho] at h
  have ho' := Classical.not_not.1 ho
  obtain ⟨o0, o17, ob⟩ := ho'
  obtain ⟨o, hop⟩ : ∃ o : Nat, x.op = (o : Int) := ⟨x.op.toNat, by omega⟩
  rw [hop, Int.toNat_natCast] at h ob
  have ho14 : o < 15 := by
    rcases Nat.lt_or_ge o 15 with h | h
    · exact h
    · exfalso
      have : opB true o = false := by unfold opB; simp; omega
      rw [this] at ob; cases ob
  have key : ∀ a b c : Int, (if a ≠ 0 then a else if b ≠ 0 then b else c) = 0 → a = 0 ∧ b = 0 ∧ c = 0 := fun a b c h => by
    by_cases ha : a = 0
    · by_cases hb : b = 0
      · rw [if_neg (fun k => k ha), if_neg (fun k => k hb)] at h; exact ⟨ha, hb, h⟩
      · rw [if_neg (fun k => k ha), if_pos hb] at h; exact absurd h hb
    · rw [if_pos ha] at h; exact absurd h ha
  obtain ⟨h1, h2, h3⟩ := key _ _ _ h
  clear h key ho ob
  obtain ⟨op, d, a, b⟩ := x
  simp only at *
  subst hop
  have f0 : ∀ (m r k v s : Int), fieldE 114 m r k v s = 0 → 0 ≤ m ∧ m < r := fun m r k v s h => by
    unfold fieldE at h; simp at h; omega
  have fc : ∀ (m r k v s : Int), fieldE 99 m r k v s = 0 → 0 ≤ m ∧ m ≤ 65535 := fun m r k v s h => by
    unfold fieldE at h; simp at h; omega
  have ft : ∀ (m r k v s : Int), fieldE 116 m r k v s = 0 → 0 ≤ m ∧ m < k := fun m r k v s h => by
    unfold fieldE at h; simp at h; omega
  have fs : ∀ (m r k v s : Int), fieldE 115 m r k v s = 0 → 0 ≤ m ∧ m ≤ 99 := fun m r k v s h => by
    unfold fieldE at h; simp at h; omega
  have fv : ∀ (m r k v s : Int), fieldE 118 m r k v s = 0 → 0 ≤ m ∧ m < v := fun m r k v s h => by
    unfold fieldE at h; simp at h; omega
  unfold Right
  simp only
  rcases (show o = 0 ∨ o = 1 ∨ o = 2 ∨ o = 3 ∨ o = 4 ∨ o = 5 ∨ o = 6 ∨ o = 7 ∨ o = 8 ∨ o = 9 ∨ o = 10 ∨ o = 11 ∨ o = 12 ∨ o = 13 ∨ o = 14 by omega) with rfl | rfl | rfl | rfl | rfl | rfl | rfl | rfl | rfl | rfl | rfl | rfl | rfl | rfl | rfl
  · have g1 := f0 _ _ _ _ _ h1; have g2 := fc _ _ _ _ _ h2; omega
  · have g1 := f0 _ _ _ _ _ h1; have g2 := f0 _ _ _ _ _ h2; omega
  · have g1 := f0 _ _ _ _ _ h1; have g2 := f0 _ _ _ _ _ h2; have g3 := f0 _ _ _ _ _ h3; omega
  · have g1 := f0 _ _ _ _ _ h1; have g2 := f0 _ _ _ _ _ h2; have g3 := f0 _ _ _ _ _ h3; omega
  · have g1 := f0 _ _ _ _ _ h1; have g2 := f0 _ _ _ _ _ h2; have g3 := f0 _ _ _ _ _ h3; omega
  · have g1 := f0 _ _ _ _ _ h1; have g2 := f0 _ _ _ _ _ h2; have g3 := f0 _ _ _ _ _ h3; omega
  · have g1 := f0 _ _ _ _ _ h1; have g2 := f0 _ _ _ _ _ h2; have g3 := f0 _ _ _ _ _ h3; omega
  · have g2 := ft _ _ _ _ _ h2; omega
  · have g2 := f0 _ _ _ _ _ h2; have g3 := ft _ _ _ _ _ h3; omega
  · have g2 := f0 _ _ _ _ _ h2; omega
  · have g2 := f0 _ _ _ _ _ h2; omega
  · have g2 := fs _ _ _ _ _ h2; omega
  · have g1 := fv _ _ _ _ _ h1; have g2 := f0 _ _ _ _ _ h2; omega
  · have g1 := fv _ _ _ _ _ h1; have g2 := fc _ _ _ _ _ h2; omega
  · have g1 := fv _ _ _ _ _ h1; omega

theorem codedFrom_ok (p : Bool) (L : List In4) (r v s : Int) : ∀ (m k : Nat), k + m = L.length → (codedFrom p L r v s k m).1 = 0 → (∀ i, k ≤ i → i < L.length → insE p (inAt L i) r L.length v s = 0) ∧ ((inAt L (L.length - 1)).op = 7 ∨ (inAt L (L.length - 1)).op = 10)
  | 0, k, hk, h => by
    refine ⟨fun i h1 h2 => by omega, ?_⟩
    unfold codedFrom at h
    by_cases hc : (inAt L (L.length - 1)).op ≠ 7 ∧ (inAt L (L.length - 1)).op ≠ 10
    · rw [if_pos hc] at h; cases h
    · omega
  | m + 1, k, hk, h => by
    unfold codedFrom at h
    by_cases hc : insE p (inAt L k) r L.length v s ≠ 0
    · rw [if_pos hc] at h; exact absurd h hc
    · rw [if_neg hc] at h
      obtain ⟨h1, h2⟩ := codedFrom_ok p L r v s m (k + 1) (by omega) h
      refine ⟨fun i hi hl => ?_, h2⟩
      by_cases hik : i = k
      · subst hik; exact Classical.not_not.1 hc
      · exact h1 i (by omega) hl

/-- What a right program keeps to. -/
structure RightP (P R V : Int) (L : List In4) : Prop where
  r1 : 1 ≤ R
  r12 : R ≤ 12
  p0 : 0 ≤ P
  p4 : P ≤ 4
  pr : P ≤ R
  v0 : 0 ≤ V
  v4 : V ≤ 4
  n1 : 1 ≤ L.length
  n40 : L.length ≤ 40
  ins : ∀ i, i < L.length → Right R L.length V (inAt L i)
  last : (inAt L (L.length - 1)).op = 7 ∨ (inAt L (L.length - 1)).op = 10
  low : ∀ i, i < L.length → (inAt L i).op ≤ 14
theorem rightP_of (P R V : Int) (L : List In4) (h : (progE P R V L).1 = 0) : RightP P R V L := by
  by_cases hs : SizeBad P R V L.length
  · rw [progE_bad hs] at h; cases h
  · rw [progE_good hs] at h
    obtain ⟨h1, h2⟩ := codedFrom_ok true L R V 0 L.length 0 (by omega) h
    unfold SizeBad at hs
    exact ⟨by omega, by omega, by omega, by omega, by omega, by omega, by omega, by omega, by omega, fun i hi => (right_of_insE _ _ _ _ (h1 i (Nat.zero_le _) hi)).1, h2, fun i hi => (right_of_insE _ _ _ _ (h1 i (Nat.zero_le _) hi)).2⟩

/-- What a run keeps to. -/
structure StOk (L : List In4) (V : Int) (s : St) : Prop where
  at_ : s.on = true → s.at_ < L.length
  regs : ∀ i, 0 ≤ s.regs i ∧ s.regs i ≤ 65535
  vars : ∀ i : Nat, V ≤ (i : Int) → s.vars i = -1
  outs : s.outs.length ≤ s.steps
  stops : s.stops.length ≤ s.steps
  kind : s.on = true → s.kind = 2 ∧ s.val = 0
  env : s.env = progEnv

theorem reach_ok (op a b : Int) (ha : 0 ≤ a ∧ a ≤ 65535) (hb : 0 ≤ b ∧ b ≤ 65535) : reachE op a b = -1 ∨ (0 ≤ reachE op a b ∧ reachE op a b ≤ 65535) := by
  unfold reachE
  by_cases h2 : op = 2
  · rw [if_pos h2]; omega
  rw [if_neg h2]
  by_cases h3 : op = 3
  · rw [if_pos h3]; omega
  rw [if_neg h3]
  by_cases h4 : op = 4
  · rw [if_pos h4]; right; generalize a * b = q; omega
  rw [if_neg h4]
  by_cases h5 : op = 5
  · rw [if_pos h5]
    by_cases h0 : b = 0
    · rw [if_pos h0]; exact .inl rfl
    · rw [if_neg h0]
      have g0 : 0 ≤ a / b := Int.ediv_nonneg ha.1 hb.1
      have g1 : a / b ≤ a := Int.ediv_le_self _ ha.1
      right; generalize a / b = q at g0 g1; omega
  rw [if_neg h5]
  by_cases h : a < b
  · rw [if_pos h]; omega
  · rw [if_neg h]; omega

theorem upd_ok (f : Nat → Int) (d : Nat) (v : Int) (hf : ∀ i, 0 ≤ f i ∧ f i ≤ 65535) (hv : 0 ≤ v ∧ v ≤ 65535) : ∀ i, 0 ≤ upd f d v i ∧ upd f d v i ≤ 65535 := fun i => by
  unfold upd; split
  · exact hv
  · exact hf i

/-- A step keeps to it, and counts one. -/
theorem step_ok {P R V : Int} {L : List In4} (hp : RightP P R V L) {s : St} (h : StOk L V s) (hon : s.on = true) : StOk L V (stepSt (inAt L s.at_) s) ∧ (stepSt (inAt L s.at_) s).steps = s.steps + 1 := by
  have hat := h.at_ hon
  have hx := hp.ins s.at_ hat
  have hlow := hp.low s.at_ hat
  have hlast := hp.last
  obtain ⟨x, hxe⟩ : ∃ x, x = inAt L s.at_ := ⟨_, rfl⟩
  have hne : x.op ≠ 7 → x.op ≠ 10 → s.at_ + 1 < L.length := fun h7 h10 => by
    rcases Nat.lt_or_ge (s.at_ + 1) L.length with h | h
    · exact h
    · exfalso
      have : L.length - 1 = s.at_ := by omega
      rw [this, ← hxe] at hlast
      rcases hlast with h | h
      · exact h7 h
      · exact h10 h
  rw [← hxe] at hx hlow ⊢
  clear hlast hxe
  obtain ⟨o0, _, rD, rA, rB, rC, rJ, rI, rS, rV, _, _⟩ := hx
  have hk := h.kind hon
  have hok : ∀ s' : St, (s'.on = true → s'.at_ < L.length) → (∀ i, 0 ≤ s'.regs i ∧ s'.regs i ≤ 65535) → (∀ i : Nat, V ≤ (i : Int) → s'.vars i = -1) → s'.outs.length ≤ s'.steps → s'.stops.length ≤ s'.steps → (s'.on = true → s'.kind = 2 ∧ s'.val = 0) → s'.steps = s.steps + 1 → s'.env = s.env → StOk L V s' ∧ s'.steps = s.steps + 1 :=
    fun s' a b c d e f g k => ⟨⟨a, b, c, d, e, f, k.trans h.env⟩, g⟩
  have ho := h.outs
  have hs := h.stops
  unfold stepSt
  rcases (show x.op = 0 ∨ x.op = 1 ∨ (2 ≤ x.op ∧ x.op ≤ 6) ∨ x.op = 7 ∨ x.op = 8 ∨ x.op = 9 ∨ x.op = 10 ∨ x.op = 11 ∨ x.op = 12 ∨ x.op = 13 ∨ x.op = 14 by omega) with e | e | e | e | e | e | e | e | e | e | e
  · have : doSt x (preSt x s) = s.next.reg x.d.toNat x.a := by
      unfold preSt; rw [if_neg (by omega), if_neg (by omega), if_neg (by omega), if_neg (by omega), if_neg (by omega), if_neg (by omega)]; unfold doSt; rw [if_pos e]
    rw [this]
    exact hok _ (fun _ => hne (by omega) (by omega)) (upd_ok _ _ _ h.regs (rC (.inl e))) h.vars (Nat.le_succ_of_le ho) (Nat.le_succ_of_le hs) (fun _ => hk) rfl rfl
  · have : doSt x (preSt x s) = s.next.reg x.d.toNat (s.regs x.a.toNat) := by
      unfold preSt; rw [if_neg (by omega), if_neg (by omega), if_neg (by omega), if_neg (by omega), if_neg (by omega), if_neg (by omega)]; unfold doSt; rw [if_neg (by omega), if_pos e]
    rw [this]
    exact hok _ (fun _ => hne (by omega) (by omega)) (upd_ok _ _ _ h.regs (h.regs _)) h.vars (Nat.le_succ_of_le ho) (Nat.le_succ_of_le hs) (fun _ => hk) rfl rfl
  · have : doSt x (preSt x s) = s.next.reckon x.op x.d.toNat x.a.toNat x.b.toNat := by
      unfold preSt; rw [if_neg (by omega), if_neg (by omega), if_neg (by omega), if_neg (by omega), if_neg (by omega), if_neg (by omega)]; unfold doSt
      rw [if_neg (by omega), if_neg (by omega), if_neg (by omega), if_neg (by omega), if_neg (by omega), if_neg (by omega), if_pos e]
    rw [this]
    unfold St.reckon
    rcases reach_ok x.op (s.regs x.a.toNat) (s.regs x.b.toNat) (h.regs _) (h.regs _) with hr | hr
    · rw [if_pos (by show reachE x.op (s.regs x.a.toNat) (s.regs x.b.toNat) < 0; omega)]
      exact hok _ (fun k => by cases k) h.regs h.vars (Nat.le_succ_of_le ho) (Nat.le_succ_of_le hs) (fun k => by cases k) rfl rfl
    · rw [if_neg (by show ¬ reachE x.op (s.regs x.a.toNat) (s.regs x.b.toNat) < 0; omega)]
      exact hok _ (fun _ => hne (by omega) (by omega)) (upd_ok _ _ _ h.regs hr) h.vars (Nat.le_succ_of_le ho) (Nat.le_succ_of_le hs) (fun _ => hk) rfl rfl
  · have : doSt x (preSt x s) = s.next.goto x.a.toNat := by
      unfold preSt; rw [if_neg (by omega), if_neg (by omega), if_neg (by omega), if_neg (by omega), if_neg (by omega), if_neg (by omega)]; unfold doSt; rw [if_neg (by omega), if_neg (by omega), if_pos e]
    rw [this]
    exact hok _ (fun _ => by have := rJ e; show x.a.toNat < L.length; omega) h.regs h.vars (Nat.le_succ_of_le ho) (Nat.le_succ_of_le hs) (fun _ => hk) rfl rfl
  · have : doSt x (preSt x s) = if s.regs x.a.toNat = 0 then s.next else s.next.goto x.b.toNat := by
      unfold preSt; rw [if_neg (by omega), if_neg (by omega), if_neg (by omega), if_neg (by omega), if_neg (by omega), if_neg (by omega)]; unfold doSt; rw [if_neg (by omega), if_neg (by omega), if_neg (by omega), if_pos e]
    rw [this]
    by_cases hz : s.regs x.a.toNat = 0
    · rw [if_pos hz]
      exact hok _ (fun _ => hne (by omega) (by omega)) h.regs h.vars (Nat.le_succ_of_le ho) (Nat.le_succ_of_le hs) (fun _ => hk) rfl rfl
    · rw [if_neg hz]
      exact hok _ (fun _ => by have := rI e; show x.b.toNat < L.length; omega) h.regs h.vars (Nat.le_succ_of_le ho) (Nat.le_succ_of_le hs) (fun _ => hk) rfl rfl
  · have : doSt x (preSt x s) = s.next.out (s.regs x.a.toNat) := by
      unfold preSt; rw [if_neg (by omega), if_neg (by omega), if_neg (by omega), if_neg (by omega), if_neg (by omega), if_neg (by omega)]; unfold doSt; rw [if_neg (by omega), if_neg (by omega), if_neg (by omega), if_neg (by omega), if_pos e]
    rw [this]
    exact hok _ (fun _ => hne (by omega) (by omega)) h.regs h.vars (by show (s.outs ++ [_]).length ≤ s.steps + 1; rw [List.length_append]; exact Nat.succ_le_succ ho) (Nat.le_succ_of_le hs) (fun _ => hk) rfl rfl
  · have : doSt x (preSt x s) = s.next.ended 0 (s.regs x.a.toNat) := by
      unfold preSt; rw [if_neg (by omega), if_neg (by omega), if_neg (by omega), if_neg (by omega), if_neg (by omega), if_neg (by omega)]; unfold doSt; rw [if_neg (by omega), if_neg (by omega), if_neg (by omega), if_neg (by omega), if_neg (by omega), if_pos e]
    rw [this]
    exact hok _ (fun k => by cases k) h.regs h.vars (Nat.le_succ_of_le ho) (Nat.le_succ_of_le hs) (fun k => by cases k) rfl rfl
  all_goals
    have hd : ∀ s', doSt x s' = s'.next := fun s' => by
      unfold doSt; rw [if_neg (by omega), if_neg (by omega), if_neg (by omega), if_neg (by omega), if_neg (by omega), if_neg (by omega), if_neg (by omega)]
    rw [hd]
    unfold preSt
  · rw [if_pos e]
    exact hok _ (fun _ => hne (by omega) (by omega)) h.regs h.vars (Nat.le_succ_of_le ho) (by show (s.stops ++ [_]).length ≤ s.steps + 1; rw [List.length_append]; exact Nat.succ_le_succ hs) (fun _ => hk) rfl rfl
  · rw [if_neg (by omega), if_pos e]
    exact hok _ (fun _ => hne (by omega) (by omega)) h.regs (fun i hi => by have := rV (by omega); show upd s.vars x.d.toNat _ i = -1; rw [upd_other _ _ (by omega)]; exact h.vars i hi) (Nat.le_succ_of_le ho) (Nat.le_succ_of_le hs) (fun _ => hk) rfl rfl
  · rw [if_neg (by omega), if_neg (by omega), if_pos e]
    exact hok _ (fun _ => hne (by omega) (by omega)) h.regs (fun i hi => by have := rV (by omega); show upd s.vars x.d.toNat _ i = -1; rw [upd_other _ _ (by omega)]; exact h.vars i hi) (Nat.le_succ_of_le ho) (Nat.le_succ_of_le hs) (fun _ => hk) rfl rfl
  · rw [if_neg (by omega), if_neg (by omega), if_neg (by omega), if_pos e]
    exact hok _ (fun _ => hne (by omega) (by omega)) h.regs (fun i hi => by have := rV (by omega); show upd s.vars x.d.toNat _ i = -1; rw [upd_other _ _ (by omega)]; exact h.vars i hi) (Nat.le_succ_of_le ho) (Nat.le_succ_of_le hs) (fun _ => hk) rfl rfl

theorem run_off (L : List In4) (m : Nat) (s : St) (h : s.on = false) : runSt L m s = s := by
  cases m with
  | zero => rfl
  | succ m => unfold runSt; rw [h]; rfl
theorem run_on {L : List In4} {m : Nat} {s : St} (hm : 0 < m) (h : s.on = true) : runSt L m s = runSt L (m - 1) (stepSt (inAt L s.at_) s) := by
  obtain ⟨k, rfl⟩ : ∃ k, m = k + 1 := ⟨m - 1, by omega⟩
  show (if s.on then _ else _) = _
  rw [h]; rfl

/-- The answer of a run: its error, and what it came to. -/
def zst : St := ⟨0, fun _ => 0, fun _ => 0, false, 0, 0, 0, [], [], progEnv⟩
end Go.Proofs.YtoepcplbpochpabDoor

/-
  What comes of an instruction: (*lodge.writer).writeCopy, writeIns.
-/
namespace Go.Proofs.YtoepcplbpochpabDoor
open Go.RowKit

/-- What comes of a Copy. -/
def copyC (hs : Nat → Bool) (ha : Nat → Nat) (K d a : Nat) : List In4 :=
  if hs d = true then fetC hs ha K a 0 ++ [⟨16, ha d, fetR hs ha K a 0, 0⟩] else if hs a = true then [⟨15, ha d, ha a, 0⟩] else [⟨1, ha d, ha a, 0⟩]
/-- What comes of an instruction, with its target as it is in the program. -/
def insC (hs : Nat → Bool) (ha : Nat → Nat) (K : Nat) (x : In4) : List In4 :=
  if x.op = 0 then [⟨0, goalR hs ha K x.d.toNat, x.a, 0⟩] ++ keepC hs ha K x.d.toNat else
  if x.op = 1 then copyC hs ha K x.d.toNat x.a.toNat else
  if 2 ≤ x.op ∧ x.op ≤ 6 then fetC hs ha K x.a.toNat 0 ++ fetC hs ha K x.b.toNat 1 ++ [⟨x.op, goalR hs ha K x.d.toNat, fetR hs ha K x.a.toNat 0, fetR hs ha K x.b.toNat 1⟩] ++ keepC hs ha K x.d.toNat else
  if x.op = 8 then fetC hs ha K x.a.toNat 0 ++ [⟨8, 0, fetR hs ha K x.a.toNat 0, x.b⟩] else
  if x.op = 9 ∨ x.op = 10 then fetC hs ha K x.a.toNat 0 ++ [⟨x.op, 0, fetR hs ha K x.a.toNat 0, 0⟩] else
  if x.op = 7 ∨ x.op = 11 then [⟨x.op, 0, x.a, 0⟩] else []

theorem fetC_len (hs : Nat → Bool) (ha : Nat → Nat) (K r n : Nat) : (fetC hs ha K r n).length ≤ 1 := by unfold fetC; split <;> simp
theorem keepC_len (hs : Nat → Bool) (ha : Nat → Nat) (K r : Nat) : (keepC hs ha K r).length ≤ 1 := by unfold keepC; split <;> simp

/-- The writer amid an instruction: what it has written, and the instruction in its box N. -/
structure WIns (w0 : World) (B N : Nat) (sv0 : Value) (x : In4) (hs : Nat → Bool) (ha : Nat → Nat) (K : Nat) (st : Nat → Nat) (C : List In4) (w : World) (sv : Value) : Prop where
  wr : WrB w B hs ha K st C sv
  step : WrStep B w0 sv0 w sv
  box : At4 w N 0 x
  apart : some N ≠ sv.ownBlock
  lt : N < w.heap.size
  ne : N ≠ B
theorem WIns.go {w0 w w' : World} {B N : Nat} {sv0 sv sv' : Value} {x : In4} {hs : Nat → Bool} {ha : Nat → Nat} {K : Nat} {st : Nat → Nat} {C C' : List In4} (h : WIns w0 B N sv0 x hs ha K st C w sv) (hw : WrB w' B hs ha K st C' sv') (hS : WrStep B w sv w' sv') : WIns w0 B N sv0 x hs ha K st C' w' sv' := by
  have hbl := hS.block h.lt h.ne h.apart
  exact ⟨hw, h.step.trans hS, ⟨(World.cell?_of_block hbl).trans h.box.1, (World.cell?_of_block hbl).trans h.box.2.1, (World.cell?_of_block hbl).trans h.box.2.2.1, (World.cell?_of_block hbl).trans h.box.2.2.2⟩, hS.fresh N h.lt h.apart, Nat.lt_of_lt_of_le h.lt hS.keep.size, h.ne⟩
theorem WIns.below {w0 w w' : World} {B N : Nat} {sv0 sv : Value} {x : In4} {hs : Nat → Bool} {ha : Nat → Nat} {K : Nat} {st : Nat → Nat} {C : List In4} (h : WIns w0 B N sv0 x hs ha K st C w sv) (hb : Below w.heap.size w w') : WIns w0 B N sv0 x hs ha K st C w' sv := h.go (h.wr.below hb) (.below hb)
theorem WIns.post {w0 w : World} {B N : Nat} {sv0 sv : Value} {x : In4} {hs : Nat → Bool} {ha : Nat → Nat} {K : Nat} {st : Nat → Nat} {C C' : List In4} (h : WIns w0 B N sv0 x hs ha K st C w sv) (e : C = C') : WPost w0 B hs ha K st C' sv0 (.tuple #[]) (.returned (.tuple #[])) w := ⟨rfl, sv, e ▸ h.wr, h.step⟩
theorem open_ins {w : World} {B : Nat} {sv : Value} {hs : Nat → Bool} {ha : Nat → Nat} {K : Nat} {st : Nat → Nat} {C : List In4} (h : WrB w B hs ha K st C sv) (x : In4) : ∃ w2, w2 = w.alloc (.cells #[.int .i64 x.op, .int .i64 x.d, .int .i64 x.a, .int .i64 x.b] 31) ∧ Hid (WIns w B w.heap.size sv x hs ha K st C w2 sv) := by
  obtain ⟨w2, hw2, hq, HB2, hz⟩ := box4 w x
  exact ⟨w2, hw2, h.below (unhide HB2), .below (unhide HB2), hq, h.apart (Nat.le_refl _), hz, by have := h.lt; omega⟩

set_option maxRecDepth 100000 in
set_option maxHeartbeats 8000000 in
theorem writeIns_any (copy : ∀ (B : Nat) (hs : Nat → Bool) (ha : Nat → Nat) (K : Nat) (st : Nat → Nat) (C : List In4) (sv : Value) (d a : Nat) (b : Int) (w : World), WrB w B hs ha K st C sv → 2 ≤ K → K ≤ 16 → d < 12 → a < 12 → C.length ≤ 900 →
      Calls Tryd.prog 77 #[.pointer (some ⟨B, 0, none⟩), .agg #[.int .i64 1, .int .i64 d, .int .i64 a, .int .i64 b]] w (WPost w B hs ha K st (C ++ copyC hs ha K d a) sv (.tuple #[])))
    (B : Nat) (hs : Nat → Bool) (ha : Nat → Nat) (K : Nat) (st : Nat → Nat) (C : List In4) (sv : Value) (x : In4) (R n V : Int) (w : World) (h : WrB w B hs ha K st C sv) (hK : 2 ≤ K) (hK' : K ≤ 16) (hx : Right R n V x) (hR : R ≤ 12) (hlow : x.op ≤ 14) (hl : C.length ≤ 900) :
    Calls Tryd.prog 54 #[.pointer (some ⟨B, 0, none⟩), .agg #[.int .i64 x.op, .int .i64 x.d, .int .i64 x.a, .int .i64 x.b]] w (WPost w B hs ha K st (C ++ insC hs ha K x) sv (.tuple #[])) := by
  have KF := hide (fun w C sv (h : WrB w B hs ha K st C sv) r n hr hn hl => fetch_any B hs ha K st C sv r n w h hK hK' hr hn hl)
  have KG := hide (fun w C sv (h : WrB w B hs ha K st C sv) r hr => goal_any B hs ha K st C sv r w h hK hK' hr)
  have KK := hide (fun w C sv (h : WrB w B hs ha K st C sv) r hr hl => keep_any B hs ha K st C sv r w h hK hK' hr hl)
  have KP := hide (fun w C sv (h : WrB w B hs ha K st C sv) x hl => put1_any B hs ha K st C sv x w h hl)
  have KC := hide (fun w C sv (h : WrB w B hs ha K st C sv) d a b hd ha' hl => copy B hs ha K st C sv d a b w h hK hK' hd ha' hl)
  obtain ⟨w2, hw2, HS2⟩ := open_ins h x
  have HW := hide hw2
  have HLF := hide (fun r n => fetC_len hs ha K r n)
  clear h hw2 copy
  obtain ⟨o0, _, rD, rA, rB, _⟩ := hx
  obtain ⟨op, d, a, b⟩ := x
  simp only at *
  rcases (show op = 0 ∨ op = 1 ∨ (2 ≤ op ∧ op ≤ 6) ∨ op = 8 ∨ (op = 9 ∨ op = 10) ∨ (op = 7 ∨ op = 11) ∨ (12 ≤ op ∧ op ≤ 14) by omega) with rfl | rfl | ho | rfl | ho | ho | ho
  -- Const
  · obtain ⟨d0, d1⟩ := rD (.inl rfl)
    obtain ⟨dn, rfl⟩ : ∃ dn : Nat, d = dn := ⟨d.toNat, by omega⟩
    have hdn : dn < 12 := by omega
    clear rA rB rD d0 d1
    obtain ⟨q0, q1, q2, q3⟩ := (unhide HS2).box
    simp only at q0 q1 q2 q3
    go_enter Tryd.func54, Tryd.ntmps54
    go_wp2_with fail
    rw [← unhide HW]
    go_wp2_with fail
    refine (unhide KG w2 C sv (unhide HS2).wr dn hdn).mono ?_
    rintro e w3 ⟨rfl, hb3⟩
    have HS3 := hide ((unhide HS2).below hb3)
    clear hb3 HS2 q0 q1 q2 q3
    obtain ⟨q0, q1, q2, q3⟩ := (unhide HS3).box
    simp only at q0 q1 q2 q3
    go_wp2_with fail
    refine (unhide KP w3 C sv (unhide HS3).wr ⟨0, goalR hs ha K dn, a, 0⟩ (by omega)).mono ?_
    rintro e w4 ⟨rfl, sv4, hw4, hs4⟩
    have HS4 := hide ((unhide HS3).go hw4 hs4)
    clear hw4 hs4 HS3 q0 q1 q2 q3
    obtain ⟨q0, q1, q2, q3⟩ := (unhide HS4).box
    simp only at q0 q1 q2 q3
    go_wp2_with fail
    refine (unhide KK w4 _ sv4 (unhide HS4).wr dn hdn (by simp; omega)).mono ?_
    rintro e w5 ⟨rfl, sv5, hw5, hs5⟩
    have HS5 := hide ((unhide HS4).go hw5 hs5)
    clear hw5 hs5 HS4 q0 q1 q2 q3
    go_wp2_with fail
    go_returns
    exact (unhide HS5).post (by unfold insC; simp)
  · obtain ⟨d0, d1⟩ := rD (.inr (.inl rfl))
    obtain ⟨dn, rfl⟩ : ∃ dn : Nat, d = dn := ⟨d.toNat, by omega⟩
    have hdn : dn < 12 := by omega
    obtain ⟨a0, a1⟩ := rA (.inl rfl)
    obtain ⟨an, rfl⟩ : ∃ an : Nat, a = an := ⟨a.toNat, by omega⟩
    have han : an < 12 := by omega
    clear rA rB rD d0 d1 a0 a1
    obtain ⟨q0, q1, q2, q3⟩ := (unhide HS2).box
    simp only at q0 q1 q2 q3
    go_enter Tryd.func54, Tryd.ntmps54
    go_wp2_with fail
    rw [← unhide HW]
    go_wp2_with fail
    refine (unhide KC w2 _ sv (unhide HS2).wr dn an b hdn han hl).mono ?_
    rintro e w3 ⟨rfl, sv3, hw, hs'⟩
    have HS3 := hide ((unhide HS2).go hw hs')
    clear hw hs'
    clear HS2 q0 q1 q2 q3
    obtain ⟨q0, q1, q2, q3⟩ := (unhide HS3).box
    simp only at q0 q1 q2 q3
    go_wp2_with fail
    go_returns
    exact (unhide HS3).post (by unfold insC; simp)
  · obtain ⟨d0, d1⟩ := rD (.inr (.inr ho))
    obtain ⟨dn, rfl⟩ : ∃ dn : Nat, d = dn := ⟨d.toNat, by omega⟩
    have hdn : dn < 12 := by omega
    obtain ⟨a0, a1⟩ := rA (.inr (.inl ho))
    obtain ⟨an, rfl⟩ : ∃ an : Nat, a = an := ⟨a.toNat, by omega⟩
    have han : an < 12 := by omega
    obtain ⟨b0, b1⟩ := rB ho
    obtain ⟨bn, rfl⟩ : ∃ bn : Nat, b = bn := ⟨b.toNat, by omega⟩
    have hbn : bn < 12 := by omega
    clear rA rB rD d0 d1 a0 a1 b0 b1
    obtain ⟨ho1, ho2⟩ := ho
    rcases (show op = 2 ∨ op = 3 ∨ op = 4 ∨ op = 5 ∨ op = 6 by omega) with rfl | rfl | rfl | rfl | rfl
    all_goals
      obtain ⟨q0, q1, q2, q3⟩ := (unhide HS2).box
      simp only at q0 q1 q2 q3
      go_enter Tryd.func54, Tryd.ntmps54
      go_wp2_with fail
      rw [← unhide HW]
      go_wp2_with fail
      refine (unhide KF w2 _ sv (unhide HS2).wr an 0 han (by omega) (by have l1 := unhide HLF; simp; first | omega | (have := l1 an 0; omega) | (have := l1 an 0; have := l1 bn 1; omega))).mono ?_
      rintro e w3 ⟨rfl, sv3, hw, hs'⟩
      have HS3 := hide ((unhide HS2).go hw hs')
      clear hw hs'
      clear HS2 q0 q1 q2 q3
      obtain ⟨q0, q1, q2, q3⟩ := (unhide HS3).box
      simp only at q0 q1 q2 q3
      go_wp2_with fail
      refine (unhide KF w3 _ sv3 (unhide HS3).wr bn 1 hbn (by omega) (by have l1 := unhide HLF; simp; first | omega | (have := l1 an 0; omega) | (have := l1 an 0; have := l1 bn 1; omega))).mono ?_
      rintro e w4 ⟨rfl, sv4, hw, hs'⟩
      have HS4 := hide ((unhide HS3).go hw hs')
      clear hw hs'
      clear HS3 q0 q1 q2 q3
      obtain ⟨q0, q1, q2, q3⟩ := (unhide HS4).box
      simp only at q0 q1 q2 q3
      go_wp2_with fail
      refine (unhide KG w4 _ sv4 (unhide HS4).wr dn hdn).mono ?_
      rintro e w5 ⟨rfl, hb⟩
      have HS5 := hide ((unhide HS4).below hb)
      clear hb
      clear HS4 q0 q1 q2 q3
      obtain ⟨q0, q1, q2, q3⟩ := (unhide HS5).box
      simp only at q0 q1 q2 q3
      go_wp2_with fail
      refine (unhide KP w5 _ sv4 (unhide HS5).wr ⟨_, goalR hs ha K dn, fetR hs ha K an 0, fetR hs ha K bn 1⟩ (by have l1 := unhide HLF; simp; first | omega | (have := l1 an 0; omega) | (have := l1 an 0; have := l1 bn 1; omega))).mono ?_
      rintro e w6 ⟨rfl, sv6, hw, hs'⟩
      have HS6 := hide ((unhide HS5).go hw hs')
      clear hw hs'
      clear HS5 q0 q1 q2 q3
      obtain ⟨q0, q1, q2, q3⟩ := (unhide HS6).box
      simp only at q0 q1 q2 q3
      go_wp2_with fail
      refine (unhide KK w6 _ sv6 (unhide HS6).wr dn hdn (by have l1 := unhide HLF; simp; first | omega | (have := l1 an 0; omega) | (have := l1 an 0; have := l1 bn 1; omega))).mono ?_
      rintro e w7 ⟨rfl, sv7, hw, hs'⟩
      have HS7 := hide ((unhide HS6).go hw hs')
      clear hw hs'
      clear HS6 q0 q1 q2 q3
      obtain ⟨q0, q1, q2, q3⟩ := (unhide HS7).box
      simp only at q0 q1 q2 q3
      go_wp2_with fail
      go_returns
      exact (unhide HS7).post (by unfold insC; simp)
  · obtain ⟨a0, a1⟩ := rA (.inr (.inr (.inl rfl)))
    obtain ⟨an, rfl⟩ : ∃ an : Nat, a = an := ⟨a.toNat, by omega⟩
    have han : an < 12 := by omega
    clear rA rB rD a0 a1
    obtain ⟨q0, q1, q2, q3⟩ := (unhide HS2).box
    simp only at q0 q1 q2 q3
    go_enter Tryd.func54, Tryd.ntmps54
    go_wp2_with fail
    rw [← unhide HW]
    go_wp2_with fail
    refine (unhide KF w2 _ sv (unhide HS2).wr an 0 han (by omega) (by have l1 := unhide HLF; simp; first | omega | (have := l1 an 0; omega) | (have := l1 an 0; have := l1 an 1; omega))).mono ?_
    rintro e w3 ⟨rfl, sv3, hw, hs'⟩
    have HS3 := hide ((unhide HS2).go hw hs')
    clear hw hs'
    clear HS2 q0 q1 q2 q3
    obtain ⟨q0, q1, q2, q3⟩ := (unhide HS3).box
    simp only at q0 q1 q2 q3
    go_wp2_with fail
    refine (unhide KP w3 _ sv3 (unhide HS3).wr ⟨8, 0, fetR hs ha K an 0, b⟩ (by have l1 := unhide HLF; simp; first | omega | (have := l1 an 0; omega) | (have := l1 an 0; have := l1 an 1; omega))).mono ?_
    rintro e w4 ⟨rfl, sv4, hw, hs'⟩
    have HS4 := hide ((unhide HS3).go hw hs')
    clear hw hs'
    clear HS3 q0 q1 q2 q3
    obtain ⟨q0, q1, q2, q3⟩ := (unhide HS4).box
    simp only at q0 q1 q2 q3
    go_wp2_with fail
    go_returns
    exact (unhide HS4).post (by unfold insC; simp)
  · obtain ⟨a0, a1⟩ := rA (by omega)
    obtain ⟨an, rfl⟩ : ∃ an : Nat, a = an := ⟨a.toNat, by omega⟩
    have han : an < 12 := by omega
    clear rA rB rD a0 a1
    rcases ho with rfl | rfl
    all_goals
      obtain ⟨q0, q1, q2, q3⟩ := (unhide HS2).box
      simp only at q0 q1 q2 q3
      go_enter Tryd.func54, Tryd.ntmps54
      go_wp2_with fail
      rw [← unhide HW]
      go_wp2_with fail
      refine (unhide KF w2 _ sv (unhide HS2).wr an 0 han (by omega) (by have l1 := unhide HLF; simp; first | omega | (have := l1 an 0; omega) | (have := l1 an 0; have := l1 an 1; omega))).mono ?_
      rintro e w3 ⟨rfl, sv3, hw, hs'⟩
      have HS3 := hide ((unhide HS2).go hw hs')
      clear hw hs'
      clear HS2 q0 q1 q2 q3
      obtain ⟨q0, q1, q2, q3⟩ := (unhide HS3).box
      simp only at q0 q1 q2 q3
      go_wp2_with fail
      refine (unhide KP w3 _ sv3 (unhide HS3).wr ⟨_, 0, fetR hs ha K an 0, 0⟩ (by have l1 := unhide HLF; simp; first | omega | (have := l1 an 0; omega) | (have := l1 an 0; have := l1 an 1; omega))).mono ?_
      rintro e w4 ⟨rfl, sv4, hw, hs'⟩
      have HS4 := hide ((unhide HS3).go hw hs')
      clear hw hs'
      clear HS3 q0 q1 q2 q3
      obtain ⟨q0, q1, q2, q3⟩ := (unhide HS4).box
      simp only at q0 q1 q2 q3
      go_wp2_with fail
      go_returns
      exact (unhide HS4).post (by unfold insC; simp)
  · clear rA rB rD
    rcases ho with rfl | rfl
    all_goals
      obtain ⟨q0, q1, q2, q3⟩ := (unhide HS2).box
      simp only at q0 q1 q2 q3
      go_enter Tryd.func54, Tryd.ntmps54
      go_wp2_with fail
      rw [← unhide HW]
      go_wp2_with fail
      refine (unhide KP w2 _ sv (unhide HS2).wr ⟨_, 0, a, 0⟩ (by have l1 := unhide HLF; simp; first | omega | (have := l1 0 0; omega) | (have := l1 0 0; have := l1 0 1; omega))).mono ?_
      rintro e w3 ⟨rfl, sv3, hw, hs'⟩
      have HS3 := hide ((unhide HS2).go hw hs')
      clear hw hs'
      clear HS2 q0 q1 q2 q3
      obtain ⟨q0, q1, q2, q3⟩ := (unhide HS3).box
      simp only at q0 q1 q2 q3
      go_wp2_with fail
      go_returns
      exact (unhide HS3).post (by unfold insC; simp)
  · clear rA rB rD
    obtain ⟨ho1, ho2⟩ := ho
    rcases (show op = 12 ∨ op = 13 ∨ op = 14 by omega) with rfl | rfl | rfl
    all_goals
      obtain ⟨q0, q1, q2, q3⟩ := (unhide HS2).box
      simp only at q0 q1 q2 q3
      go_enter Tryd.func54, Tryd.ntmps54
      go_wp2_with fail
      rw [← unhide HW]
      go_wp2_with fail
      go_returns
      exact (unhide HS2).post (by unfold insC; simp)
end Go.Proofs.YtoepcplbpochpabDoor

/-
  What comes of a Copy: (*lodge.writer).writeCopy; so what comes of every instruction.
-/
namespace Go.Proofs.YtoepcplbpochpabDoor
open Go.RowKit

set_option maxRecDepth 100000 in
set_option maxHeartbeats 8000000 in
theorem writeCopy_any (B : Nat) (hs : Nat → Bool) (ha : Nat → Nat) (K : Nat) (st : Nat → Nat) (C : List In4) (sv : Value) (d a : Nat) (b : Int) (w : World) (h : WrB w B hs ha K st C sv) (hK : 2 ≤ K) (hK' : K ≤ 16) (hd : d < 12) (ha' : a < 12) (hl : C.length ≤ 900) :
    Calls Tryd.prog 77 #[.pointer (some ⟨B, 0, none⟩), .agg #[.int .i64 1, .int .i64 d, .int .i64 a, .int .i64 b]] w (WPost w B hs ha K st (C ++ copyC hs ha K d a) sv (.tuple #[])) := by
  have KF := hide (fun w C sv (h : WrB w B hs ha K st C sv) r n hr hn hl => fetch_any B hs ha K st C sv r n w h hK hK' hr hn hl)
  have KP := hide (fun w C sv (h : WrB w B hs ha K st C sv) x hl => put1_any B hs ha K st C sv x w h hl)
  obtain ⟨w2, hw2, HS2⟩ := open_ins h ⟨1, d, a, b⟩
  have HW := hide hw2
  have HLF := hide (fun r n => fetC_len hs ha K r n)
  have HCC := hide (show copyC hs ha K d a = if hs d = true then fetC hs ha K a 0 ++ [⟨16, ha d, fetR hs ha K a 0, 0⟩] else if hs a = true then [⟨15, ha d, ha a, 0⟩] else [⟨1, ha d, ha a, 0⟩] from rfl)
  clear h hw2
  have hdi : (d : Int) < 12 := by omega
  have hai : (a : Int) < 12 := by omega
  obtain ⟨q0, q1, q2, q3⟩ := (unhide HS2).box
  simp only at q0 q1 q2 q3
  have c1 := (unhide HS2).wr.hs ha'
  have c2 := (unhide HS2).wr.ha ha'
  have hz2 := (unhide HS2).lt
  have hB2 := (unhide HS2).wr.lt
  have hne := (unhide HS2).ne
  obtain ⟨sa, hsa⟩ : ∃ s, s = hs a := ⟨_, rfl⟩
  obtain ⟨sd, hsd⟩ : ∃ s, s = hs d := ⟨_, rfl⟩
  obtain ⟨ya, hya⟩ : ∃ y, y = ha a := ⟨_, rfl⟩
  obtain ⟨yd, hyd⟩ : ∃ y, y = ha d := ⟨_, rfl⟩
  have HE := hide (And.intro hsa (And.intro hsd (And.intro hya hyd)))
  rw [← hsa] at c1
  rw [← hya] at c2
  clear hsa hsd hya hyd
  go_enter Tryd.func77, Tryd.ntmps77
  go_wp2_with fail
  rw [← unhide HW]
  go_wp2_with fail
  go_region_held3 (fun w' => w'.cell? ⟨w.heap.size, 2, none⟩ = some (.int .i64 (a : Int)) ∧ w'.cell? ⟨B, a * 2, none⟩ = some (.bool sa) ∧ w'.cell? ⟨B, a * 2 + 1, none⟩ = some (.int .i64 (ya : Int))) (go_keep) (fail)
  obtain ⟨w3, hw3⟩ : ∃ w3, w3 = (w2.alloc (.cells #[.bool sa, .int .i64 (ya : Int)] 83)).drew := ⟨_, rfl⟩
  rw [← hw3]
  have hb3 : Below w2.heap.size w2 w3 := by rw [hw3]; exact (below_alloc _ _).drew
  have HS3 := hide ((unhide HS2).below hb3)
  have e0 : w3.cell? ⟨w2.heap.size, 0, none⟩ = some (.bool sa) := by rw [hw3]; exact (World.cell?_alloc_at (hn := rfl) ..).trans rfl
  have e1 : w3.cell? ⟨w2.heap.size, 1, none⟩ = some (.int .i64 (ya : Int)) := by rw [hw3]; exact (World.cell?_alloc_at (hn := rfl) ..).trans rfl
  have hz3 : w2.heap.size < w3.heap.size := by rw [hw3]; simp
  have HA3 : Hid (some w2.heap.size ≠ sv.ownBlock) := (unhide HS2).wr.apart (Nat.le_refl _)
  clear q0 q1 q2 q3 c1 c2 hw3 hb3 HS2
  obtain ⟨q0, q1, q2, q3⟩ := (unhide HS3).box
  simp only at q0 q1 q2 q3
  have c1 := (unhide HS3).wr.hs hd
  have c2 := (unhide HS3).wr.ha hd
  rw [← (unhide HE).2.1] at c1
  rw [← (unhide HE).2.2.2] at c2
  have hB3 := (unhide HS3).wr.lt
  have hz3' := (unhide HS3).lt
  go_wp2_with fail
  go_region_held3 (fun w' => w'.cell? ⟨w.heap.size, 1, none⟩ = some (.int .i64 (d : Int)) ∧ w'.cell? ⟨B, d * 2, none⟩ = some (.bool sd) ∧ w'.cell? ⟨B, d * 2 + 1, none⟩ = some (.int .i64 (yd : Int))) (go_keep) (fail)
  obtain ⟨w4, hw4⟩ : ∃ w4, w4 = (w3.alloc (.cells #[.bool sd, .int .i64 (yd : Int)] 83)).drew := ⟨_, rfl⟩
  rw [← hw4]
  have hb4 : Below w3.heap.size w3 w4 := by rw [hw4]; exact (below_alloc _ _).drew
  have HS4 := hide ((unhide HS3).below hb4)
  have f0 : w4.cell? ⟨w3.heap.size, 0, none⟩ = some (.bool sd) := by rw [hw4]; exact (World.cell?_alloc_at (hn := rfl) ..).trans rfl
  have f1 : w4.cell? ⟨w3.heap.size, 1, none⟩ = some (.int .i64 (yd : Int)) := by rw [hw4]; exact (World.cell?_alloc_at (hn := rfl) ..).trans rfl
  have g0 : w4.cell? ⟨w2.heap.size, 0, none⟩ = some (.bool sa) := (hb4.cell (p := ⟨w2.heap.size, 0, none⟩) hz3).trans e0
  have g1 : w4.cell? ⟨w2.heap.size, 1, none⟩ = some (.int .i64 (ya : Int)) := (hb4.cell (p := ⟨w2.heap.size, 1, none⟩) hz3).trans e1
  have hz4 : w3.heap.size < w4.heap.size := by rw [hw4]; simp
  have HA4 : Hid (some w3.heap.size ≠ sv.ownBlock) := (unhide HS3).wr.apart (Nat.le_refl _)
  have hB4 : B < w3.heap.size := hB3
  have HD3 := hide f1
  clear q0 q1 q2 q3 c1 c2 hw4 hb4 HS3 e0 e1
  obtain ⟨q0, q1, q2, q3⟩ := (unhide HS4).box
  simp only at q0 q1 q2 q3
  rw [← (unhide HE).1, ← (unhide HE).2.1, ← (unhide HE).2.2.1, ← (unhide HE).2.2.2] at HCC
  cases sd
  · rw [if_neg (by decide)] at HCC
    cases sa
    · rw [if_neg (by decide)] at HCC
      go_wp2_with fail
      refine (unhide KP w4 _ sv (unhide HS4).wr ⟨1, yd, ya, 0⟩ (by omega)).mono ?_
      rintro e w5 ⟨rfl, sv5, hw5, hs5⟩
      have HS5 := hide ((unhide HS4).go hw5 hs5)
      clear hw5 hs5
      go_wp2_with fail
      go_returns
      exact (unhide HS5).post (by rw [unhide HCC])
    · rw [if_pos rfl] at HCC
      go_wp2_with fail
      refine (unhide KP w4 _ sv (unhide HS4).wr ⟨15, yd, ya, 0⟩ (by omega)).mono ?_
      rintro e w5 ⟨rfl, sv5, hw5, hs5⟩
      have HS5 := hide ((unhide HS4).go hw5 hs5)
      clear hw5 hs5
      go_wp2_with fail
      go_returns
      exact (unhide HS5).post (by rw [unhide HCC])
  · rw [if_pos rfl] at HCC
    go_wp2_with fail
    refine (unhide KF w4 _ sv (unhide HS4).wr a 0 ha' (by omega) (by omega)).mono ?_
    rintro e w5 ⟨rfl, sv5, hw5, hs5⟩
    have HS5 := hide ((unhide HS4).go hw5 hs5)
    have f1' : w5.cell? ⟨w3.heap.size, 1, none⟩ = some (.int .i64 (yd : Int)) := (World.cell?_of_block (hs5.block (k := w3.heap.size) hz4 (show w3.heap.size ≠ B by omega) (unhide HA4))).trans (unhide HD3)
    clear hw5 hs5 q0 q1 q2 q3 f0 f1 g0 g1
    go_wp2_with fail
    refine (unhide KP w5 _ sv5 (unhide HS5).wr ⟨16, yd, fetR hs ha K a 0, 0⟩ (by rw [List.length_append]; have := unhide HLF a 0; omega)).mono ?_
    rintro e w6 ⟨rfl, sv6, hw6, hs6⟩
    have HS6 := hide ((unhide HS5).go hw6 hs6)
    clear hw6 hs6
    go_wp2_with fail
    go_returns
    exact (unhide HS6).post (by rw [unhide HCC, List.append_assoc])

/-- What comes of an instruction. -/
theorem writeI_any (B : Nat) (hs : Nat → Bool) (ha : Nat → Nat) (K : Nat) (st : Nat → Nat) (C : List In4) (sv : Value) (x : In4) (R n V : Int) (w : World) (h : WrB w B hs ha K st C sv) (hK : 2 ≤ K) (hK' : K ≤ 16) (hx : Right R n V x) (hR : R ≤ 12) (hlow : x.op ≤ 14) (hl : C.length ≤ 900) :
    Calls Tryd.prog 54 #[.pointer (some ⟨B, 0, none⟩), .agg #[.int .i64 x.op, .int .i64 x.d, .int .i64 x.a, .int .i64 x.b]] w (WPost w B hs ha K st (C ++ insC hs ha K x) sv (.tuple #[])) :=
  writeIns_any (fun B hs ha K st C sv d a b w h h1 h2 h3 h4 h5 => writeCopy_any B hs ha K st C sv d a b w h h1 h2 h3 h4 h5) B hs ha K st C sv x R n V w h hK hK' hx hR hlow hl
end Go.Proofs.YtoepcplbpochpabDoor
