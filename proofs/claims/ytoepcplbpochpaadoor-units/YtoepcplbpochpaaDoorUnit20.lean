/-
  Plain mathematics of a unit's run: what a table tells at a place; what a right unit keeps to, and that a run of it stays within.
-/
import Derived.Test.YtoepcplbpochpaaDoorUnit3
import Derived.Test.YtoepcplbpochpaaDoorUnit6
import Derived.Test.YtoepcplbpochpaaDoorUnit13
import Derived.Test.YtoepcplbpochpaaDoorUnit19

namespace Go.Proofs.YtoepcplbpochpaaDoor
open Go.RowKit

/-- What the place of a range holds. -/
def heldE (regs slots : Nat → Int) (r : Rg) : Int := if r.k = 0 then regs r.a.toNat else if r.k = 1 then slots r.a.toNat else r.a
/-- Does a range tell of the variable v at the place i? -/
def Hits (r : Rg) (i v : Nat) : Prop := r.v = (v : Int) ∧ r.f ≤ (i : Int) ∧ (i : Int) < r.t
def decHits (r : Rg) (i v : Nat) : Decidable (Hits r i v) := by unfold Hits; exact inferInstance
/-- What the first range that tells of it tells. -/
def toldFrom (R : List Rg) (regs slots : Nat → Int) (i v k : Nat) : Nat → Int
  | 0 => -1
  | m + 1 => @ite _ (Hits (rg R k) i v) (decHits _ _ _) (heldE regs slots (rg R k)) (toldFrom R regs slots i v (k + 1) m)
def toldE (R : List Rg) (regs slots : Nat → Int) (i v : Nat) : Int := toldFrom R regs slots i v 0 R.length
/-- What the last range that tells of it, of the first k, tells. -/
def toldTo (R : List Rg) (regs slots : Nat → Int) (i v : Nat) : Nat → Int
  | 0 => -1
  | k + 1 => @ite _ (Hits (rg R k) i v) (decHits _ _ _) (heldE regs slots (rg R k)) (toldTo R regs slots i v k)
theorem told_here {R : List Rg} {regs slots : Nat → Int} {i v k : Nat} (hk : k < R.length) (h : Hits (rg R k) i v) : toldFrom R regs slots i v k (R.length - k) = heldE regs slots (rg R k) := by
  obtain ⟨m, hm⟩ : ∃ m, R.length - k = m + 1 := ⟨R.length - k - 1, by omega⟩
  rw [hm]; exact @if_pos _ (decHits _ _ _) h _ _ _
theorem told_on {R : List Rg} {regs slots : Nat → Int} {i v k : Nat} (hk : k < R.length) (h : ¬ Hits (rg R k) i v) : toldFrom R regs slots i v k (R.length - k) = toldFrom R regs slots i v (k + 1) (R.length - (k + 1)) := by
  obtain ⟨m, hm⟩ : ∃ m, R.length - k = m + 1 := ⟨R.length - k - 1, by omega⟩
  rw [hm, show R.length - (k + 1) = m by omega]; exact @if_neg _ (decHits _ _ _) h _ _ _
theorem toldTo_hit {R : List Rg} {regs slots : Nat → Int} {i v k : Nat} (h : Hits (rg R k) i v) : toldTo R regs slots i v (k + 1) = heldE regs slots (rg R k) := @if_pos _ (decHits _ _ _) h _ _ _
theorem toldTo_miss {R : List Rg} {regs slots : Nat → Int} {i v k : Nat} (h : ¬ Hits (rg R k) i v) : toldTo R regs slots i v (k + 1) = toldTo R regs slots i v k := @if_neg _ (decHits _ _ _) h _ _ _

theorem hits_once {R : List Rg} (ht : isTab R = true) {i v j k : Nat} (hk : k < R.length) (hj : j < k) (h1 : Hits (rg R j) i v) (h2 : Hits (rg R k) i v) : False := by
  unfold isTab at ht
  rw [Bool.and_eq_true] at ht
  have h := tab_before ht.2 k hk j hj
  unfold before at h
  obtain ⟨a1, a2, a3⟩ := h1
  obtain ⟨b1, b2, b3⟩ := h2
  omega
theorem told_none {R : List Rg} {regs slots : Nat → Int} {i v : Nat} : ∀ m k, (∀ j, k ≤ j → j < k + m → ¬ Hits (rg R j) i v) → toldFrom R regs slots i v k m = -1
  | 0, _, _ => rfl
  | m + 1, k, h => by
    have h0 := h k (Nat.le_refl _) (by omega)
    show @ite _ (Hits (rg R k) i v) (decHits _ _ _) _ _ = _
    rw [@if_neg _ (decHits _ _ _) h0]
    exact told_none m (k + 1) (fun j h1 h2 => h j (by omega) (by omega))
/-- In a table the first and the last are one. -/
theorem told_same {R : List Rg} (ht : isTab R = true) {regs slots : Nat → Int} {i v : Nat} : ∀ k, k ≤ R.length → (∀ j, j < k → ¬ Hits (rg R j) i v) ∧ toldTo R regs slots i v k = -1 ∨ ∃ j, j < k ∧ Hits (rg R j) i v ∧ toldTo R regs slots i v k = heldE regs slots (rg R j)
  | 0, _ => .inl ⟨fun j hj => by omega, rfl⟩
  | k + 1, hk => by
    rcases told_same ht k (by omega) (regs := regs) (slots := slots) with ⟨h1, h2⟩ | ⟨j, hj, h1, h2⟩
    · rcases Classical.em (Hits (rg R k) i v) with h | h
      · exact .inr ⟨k, by omega, h, toldTo_hit h⟩
      · refine .inl ⟨fun j hj => ?_, (toldTo_miss h).trans h2⟩
        by_cases e : j = k
        · subst e; exact h
        · exact h1 j (by omega)
    · exact .inr ⟨j, by omega, h1, (toldTo_miss (fun h => hits_once ht (by omega) hj h1 h)).trans h2⟩
theorem told_first {R : List Rg} (ht : isTab R = true) {regs slots : Nat → Int} {i v j : Nat} (hj : j < R.length) (h : Hits (rg R j) i v) : ∀ m k, k + m = j → toldFrom R regs slots i v k (R.length - k) = heldE regs slots (rg R j)
  | 0, k, hk => by obtain rfl : k = j := by omega
                   exact told_here hj h
  | m + 1, k, hk => by
    rw [told_on (by omega) (fun h' => hits_once ht hj (show k < j by omega) h' h)]
    exact told_first ht hj h m (k + 1) (by omega)
theorem told_eq {R : List Rg} (ht : isTab R = true) (regs slots : Nat → Int) (i v : Nat) : toldTo R regs slots i v R.length = toldE R regs slots i v := by
  rcases told_same ht R.length (Nat.le_refl _) (regs := regs) (slots := slots) (i := i) (v := v) with ⟨h1, h2⟩ | ⟨j, hj, h1, h2⟩
  · rw [h2]; exact (told_none R.length 0 (fun j _ hj => h1 j (by omega))).symm
  · rw [h2]; exact (told_first ht hj h1 j 0 (by omega)).symm

/-- What a unit's run has for good. -/
def unitEnv (R : List Rg) (tv : Option Value) : Env := ⟨16, 2, fun o => if o = 39 then tv else none, toldE R⟩

theorem right_of_insU (x : In4) (K n S : Int) (h : insE false x K n 0 S = 0) : Right K n S x ∧ (x.op ≤ 11 ∨ 15 ≤ x.op) := by
  unfold insE at h
  by_cases ho : ¬ (0 ≤ x.op ∧ x.op < 17 ∧ opB false x.op.toNat = true)
  · rw [if_pos ho] at h; cases h
  rw [if_neg ho] at h
  have ho' := Classical.not_not.1 ho
  obtain ⟨o0, o17, ob⟩ := ho'
  obtain ⟨o, hop⟩ : ∃ o : Nat, x.op = (o : Int) := ⟨x.op.toNat, by omega⟩
  rw [hop, Int.toNat_natCast] at h ob
  have ho14 : o < 12 ∨ o = 15 ∨ o = 16 := by
    rcases (show o < 12 ∨ o = 12 ∨ o = 13 ∨ o = 14 ∨ o = 15 ∨ o = 16 by omega) with h | rfl | rfl | rfl | h | h
    · exact .inl h
    · cases ob
    · cases ob
    · cases ob
    · exact .inr (.inl h)
    · exact .inr (.inr h)
  have key : ∀ a b c : Int, (if a ≠ 0 then a else if b ≠ 0 then b else c) = 0 → a = 0 ∧ b = 0 ∧ c = 0 := fun a b c h => by
    by_cases ha : a = 0
    · by_cases hb : b = 0
      · rw [if_neg (fun k => k ha), if_neg (fun k => k hb)] at h; exact ⟨ha, hb, h⟩
      · rw [if_neg (fun k => k ha), if_pos hb] at h; exact absurd h hb
    · rw [if_pos ha] at h; exact absurd h ha
  obtain ⟨h1, h2, h3⟩ := key _ _ _ h
  clear h key ho ob
  obtain ⟨op, d, a, b⟩ := x
  simp only at *
  subst hop
  have f0 : ∀ (m r k v s : Int), fieldE 114 m r k v s = 0 → 0 ≤ m ∧ m < r := fun m r k v s h => by
    unfold fieldE at h; simp at h; omega
  have fc : ∀ (m r k v s : Int), fieldE 99 m r k v s = 0 → 0 ≤ m ∧ m ≤ 65535 := fun m r k v s h => by
    unfold fieldE at h; simp at h; omega
  have ft : ∀ (m r k v s : Int), fieldE 116 m r k v s = 0 → 0 ≤ m ∧ m < k := fun m r k v s h => by
    unfold fieldE at h; simp at h; omega
  have fs : ∀ (m r k v s : Int), fieldE 115 m r k v s = 0 → 0 ≤ m ∧ m ≤ 99 := fun m r k v s h => by
    unfold fieldE at h; simp at h; omega
  have ff : ∀ (m r k v s : Int), fieldE 102 m r k v s = 0 → 0 ≤ m ∧ m < s := fun m r k v s h => by
    unfold fieldE at h; simp at h; omega
  unfold Right
  simp only
  rcases (show o = 0 ∨ o = 1 ∨ o = 2 ∨ o = 3 ∨ o = 4 ∨ o = 5 ∨ o = 6 ∨ o = 7 ∨ o = 8 ∨ o = 9 ∨ o = 10 ∨ o = 11 ∨ o = 15 ∨ o = 16 by omega) with rfl | rfl | rfl | rfl | rfl | rfl | rfl | rfl | rfl | rfl | rfl | rfl | rfl | rfl
  · have g1 := f0 _ _ _ _ _ h1; have g2 := fc _ _ _ _ _ h2; omega
  · have g1 := f0 _ _ _ _ _ h1; have g2 := f0 _ _ _ _ _ h2; omega
  · have g1 := f0 _ _ _ _ _ h1; have g2 := f0 _ _ _ _ _ h2; have g3 := f0 _ _ _ _ _ h3; omega
  · have g1 := f0 _ _ _ _ _ h1; have g2 := f0 _ _ _ _ _ h2; have g3 := f0 _ _ _ _ _ h3; omega
  · have g1 := f0 _ _ _ _ _ h1; have g2 := f0 _ _ _ _ _ h2; have g3 := f0 _ _ _ _ _ h3; omega
  · have g1 := f0 _ _ _ _ _ h1; have g2 := f0 _ _ _ _ _ h2; have g3 := f0 _ _ _ _ _ h3; omega
  · have g1 := f0 _ _ _ _ _ h1; have g2 := f0 _ _ _ _ _ h2; have g3 := f0 _ _ _ _ _ h3; omega
  · have g2 := ft _ _ _ _ _ h2; omega
  · have g2 := f0 _ _ _ _ _ h2; have g3 := ft _ _ _ _ _ h3; omega
  · have g2 := f0 _ _ _ _ _ h2; omega
  · have g2 := f0 _ _ _ _ _ h2; omega
  · have g2 := fs _ _ _ _ _ h2; omega
  · have g1 := f0 _ _ _ _ _ h1; have g2 := ff _ _ _ _ _ h2; omega
  · have g1 := ff _ _ _ _ _ h1; have g2 := f0 _ _ _ _ _ h2; omega

/-- What a right unit keeps to. -/
structure RightU (K S P V : Int) (L : List In4) (R : List Rg) : Prop where
  k2 : 2 ≤ K
  k16 : K ≤ 16
  s0 : 0 ≤ S
  s16 : S ≤ 16
  p0 : 0 ≤ P
  p4 : P ≤ 4
  ps : P ≤ S
  v4 : V ≤ 4
  n1 : 1 ≤ L.length
  n164 : L.length ≤ 164
  ins : ∀ i, i < L.length → Right K L.length S (inAt L i)
  last : (inAt L (L.length - 1)).op = 7 ∨ (inAt L (L.length - 1)).op = 10
  low : ∀ i, i < L.length → (inAt L i).op ≤ 11 ∨ 15 ≤ (inAt L i).op
  tab : isTab R = true
  rgs : ∀ i, i < R.length → RgIn K S V L.length (rg R i)
theorem rightU_of (K S P V : Int) (L : List In4) (T : ByteArray) (h : (unitE K S P V L T).1 = 0) : ∃ R, TabS T R ∧ RightU K S P V L R := by
  by_cases hs : UnitBad K S P V L.length
  · rw [unitE_bad hs] at h; cases h
  · rw [unitE_good hs] at h
    by_cases hc : (codedE false L K 0 S).1 ≠ 0
    · rw [if_pos hc] at h; exact absurd h hc
    · rw [if_neg hc] at h
      have hc' := Classical.not_not.1 hc
      cases htb : tabB T K S V L.length with
      | false => rw [htb] at h; cases h
      | true =>
        obtain ⟨R, h1, h2⟩ := tabB_true htb
        obtain ⟨h3, h4⟩ := codedFrom_ok false L K 0 S L.length 0 (by omega) hc'
        obtain ⟨g1, g2, g3, g4, g5, g6, g7, g8, g9, g10, g11⟩ := unit_good hs
        exact ⟨R, h1, g1, g2, g3, g4, g5, g6, g7, g9, g10, g11, fun i hi => (right_of_insU _ _ _ _ (h3 i (Nat.zero_le _) hi)).1, h4, fun i hi => (right_of_insU _ _ _ _ (h3 i (Nat.zero_le _) hi)).2, h1.1, h2⟩

/-- What a unit's run keeps to. -/
structure StOkU (L : List In4) (s : St) : Prop where
  at_ : s.on = true → s.at_ < L.length
  regs : ∀ i, 0 ≤ s.regs i ∧ s.regs i ≤ 65535
  vars : ∀ i, 0 ≤ s.vars i ∧ s.vars i ≤ 65535
  outs : s.outs.length ≤ s.steps
  stops : s.stops.length ≤ s.steps
  kind : s.on = true → s.kind = 2 ∧ s.val = 0

set_option maxHeartbeats 2000000 in
/-- A step keeps to it, and counts one. -/
theorem stepU_ok {K S P V : Int} {L : List In4} {R : List Rg} (hp : RightU K S P V L R) {s : St} (h : StOkU L s) (hon : s.on = true) : StOkU L (stepSt (inAt L s.at_) s) ∧ (stepSt (inAt L s.at_) s).steps = s.steps + 1 ∧ (stepSt (inAt L s.at_) s).env = s.env := by
  have hat := h.at_ hon
  have hx := hp.ins s.at_ hat
  have hlow := hp.low s.at_ hat
  have hlast := hp.last
  obtain ⟨x, hxe⟩ : ∃ x, x = inAt L s.at_ := ⟨_, rfl⟩
  have hne : x.op ≠ 7 → x.op ≠ 10 → s.at_ + 1 < L.length := fun h7 h10 => by
    rcases Nat.lt_or_ge (s.at_ + 1) L.length with h | h
    · exact h
    · exfalso
      have : L.length - 1 = s.at_ := by omega
      rw [this, ← hxe] at hlast
      rcases hlast with h | h
      · exact h7 h
      · exact h10 h
  rw [← hxe] at hx hlow ⊢
  clear hlast hxe
  obtain ⟨o0, o16, rD, rA, rB, rC, rJ, rI, rS, _, rL, rT⟩ := hx
  have hk := h.kind hon
  have hok : ∀ s' : St, (s'.on = true → s'.at_ < L.length) → (∀ i, 0 ≤ s'.regs i ∧ s'.regs i ≤ 65535) → (∀ i, 0 ≤ s'.vars i ∧ s'.vars i ≤ 65535) → s'.outs.length ≤ s'.steps → s'.stops.length ≤ s'.steps → (s'.on = true → s'.kind = 2 ∧ s'.val = 0) → s'.steps = s.steps + 1 → s'.env = s.env → StOkU L s' ∧ s'.steps = s.steps + 1 ∧ s'.env = s.env :=
    fun s' a b c d e f g k => ⟨⟨a, b, c, d, e, f⟩, g, k⟩
  have ho := h.outs
  have hs := h.stops
  unfold stepSt
  have pre0 : x.op ≤ 10 → preSt x s = s := fun hl => by
    unfold preSt; rw [if_neg (by omega), if_neg (by omega), if_neg (by omega), if_neg (by omega), if_neg (by omega), if_neg (by omega)]
  rcases (show x.op = 0 ∨ x.op = 1 ∨ (2 ≤ x.op ∧ x.op ≤ 6) ∨ x.op = 7 ∨ x.op = 8 ∨ x.op = 9 ∨ x.op = 10 ∨ x.op = 11 ∨ x.op = 15 ∨ x.op = 16 by omega) with e | e | e | e | e | e | e | e | e | e
  · have : doSt x (preSt x s) = s.next.reg x.d.toNat x.a := by
      rw [pre0 (by omega)]; unfold doSt; rw [if_pos e]
    rw [this]
    exact hok _ (fun _ => hne (by omega) (by omega)) (upd_ok _ _ _ h.regs (rC (.inl e))) h.vars (Nat.le_succ_of_le ho) (Nat.le_succ_of_le hs) (fun _ => hk) rfl rfl
  · have : doSt x (preSt x s) = s.next.reg x.d.toNat (s.regs x.a.toNat) := by
      rw [pre0 (by omega)]; unfold doSt; rw [if_neg (by omega), if_pos e]
    rw [this]
    exact hok _ (fun _ => hne (by omega) (by omega)) (upd_ok _ _ _ h.regs (h.regs _)) h.vars (Nat.le_succ_of_le ho) (Nat.le_succ_of_le hs) (fun _ => hk) rfl rfl
  · have : doSt x (preSt x s) = s.next.reckon x.op x.d.toNat x.a.toNat x.b.toNat := by
      rw [pre0 (by omega)]; unfold doSt
      rw [if_neg (by omega), if_neg (by omega), if_neg (by omega), if_neg (by omega), if_neg (by omega), if_neg (by omega), if_pos e]
    rw [this]
    unfold St.reckon
    rcases reach_ok x.op (s.regs x.a.toNat) (s.regs x.b.toNat) (h.regs _) (h.regs _) with hr | hr
    · rw [if_pos (by show reachE x.op (s.regs x.a.toNat) (s.regs x.b.toNat) < 0; omega)]
      exact hok _ (fun k => by cases k) h.regs h.vars (Nat.le_succ_of_le ho) (Nat.le_succ_of_le hs) (fun k => by cases k) rfl rfl
    · rw [if_neg (by show ¬ reachE x.op (s.regs x.a.toNat) (s.regs x.b.toNat) < 0; omega)]
      exact hok _ (fun _ => hne (by omega) (by omega)) (upd_ok _ _ _ h.regs hr) h.vars (Nat.le_succ_of_le ho) (Nat.le_succ_of_le hs) (fun _ => hk) rfl rfl
  · have : doSt x (preSt x s) = s.next.goto x.a.toNat := by
      rw [pre0 (by omega)]; unfold doSt; rw [if_neg (by omega), if_neg (by omega), if_pos e]
    rw [this]
    exact hok _ (fun _ => by have := rJ e; show x.a.toNat < L.length; omega) h.regs h.vars (Nat.le_succ_of_le ho) (Nat.le_succ_of_le hs) (fun _ => hk) rfl rfl
  · have : doSt x (preSt x s) = if s.regs x.a.toNat = 0 then s.next else s.next.goto x.b.toNat := by
      rw [pre0 (by omega)]; unfold doSt; rw [if_neg (by omega), if_neg (by omega), if_neg (by omega), if_pos e]
    rw [this]
    by_cases hz : s.regs x.a.toNat = 0
    · rw [if_pos hz]
      exact hok _ (fun _ => hne (by omega) (by omega)) h.regs h.vars (Nat.le_succ_of_le ho) (Nat.le_succ_of_le hs) (fun _ => hk) rfl rfl
    · rw [if_neg hz]
      exact hok _ (fun _ => by have := rI e; show x.b.toNat < L.length; omega) h.regs h.vars (Nat.le_succ_of_le ho) (Nat.le_succ_of_le hs) (fun _ => hk) rfl rfl
  · have : doSt x (preSt x s) = s.next.out (s.regs x.a.toNat) := by
      rw [pre0 (by omega)]; unfold doSt; rw [if_neg (by omega), if_neg (by omega), if_neg (by omega), if_neg (by omega), if_pos e]
    rw [this]
    exact hok _ (fun _ => hne (by omega) (by omega)) h.regs h.vars (by show (s.outs ++ [_]).length ≤ s.steps + 1; rw [List.length_append]; exact Nat.succ_le_succ ho) (Nat.le_succ_of_le hs) (fun _ => hk) rfl rfl
  · have : doSt x (preSt x s) = s.next.ended 0 (s.regs x.a.toNat) := by
      rw [pre0 (by omega)]; unfold doSt; rw [if_neg (by omega), if_neg (by omega), if_neg (by omega), if_neg (by omega), if_neg (by omega), if_pos e]
    rw [this]
    exact hok _ (fun k => by cases k) h.regs h.vars (Nat.le_succ_of_le ho) (Nat.le_succ_of_le hs) (fun k => by cases k) rfl rfl
  all_goals
    have hd : ∀ s', doSt x s' = s'.next := fun s' => by
      unfold doSt; rw [if_neg (by omega), if_neg (by omega), if_neg (by omega), if_neg (by omega), if_neg (by omega), if_neg (by omega), if_neg (by omega)]
    rw [hd]
    unfold preSt
  · rw [if_pos e]
    exact hok _ (fun _ => hne (by omega) (by omega)) h.regs h.vars (Nat.le_succ_of_le ho) (by show (s.stops ++ [_]).length ≤ s.steps + 1; rw [List.length_append]; exact Nat.succ_le_succ hs) (fun _ => hk) rfl rfl
  · rw [if_neg (by omega), if_neg (by omega), if_neg (by omega), if_neg (by omega), if_pos e]
    exact hok _ (fun _ => hne (by omega) (by omega)) (upd_ok _ _ _ h.regs (h.vars _)) h.vars (Nat.le_succ_of_le ho) (Nat.le_succ_of_le hs) (fun _ => hk) rfl rfl
  · rw [if_neg (by omega), if_neg (by omega), if_neg (by omega), if_neg (by omega), if_neg (by omega), if_pos e]
    exact hok _ (fun _ => hne (by omega) (by omega)) h.regs (upd_ok _ _ _ h.vars (h.regs _)) (Nat.le_succ_of_le ho) (Nat.le_succ_of_le hs) (fun _ => hk) rfl rfl

/-- A unit's run begins. -/
def stU (R : List Rg) (tv : Option Value) (xs : List Int) : St := ⟨0, fun _ => 0, nth xs, true, 2, 0, 0, [], [], unitEnv R tv⟩
theorem stU_ok {K S P V fuel : Int} {L : List In4} {R : List Rg} {xs : List Int} (hp : RightU K S P V L R) (tv : Option Value) (h : startE xs P fuel = 0) : StOkU L (stU R tv xs) := by
  have hs := start_right h
  exact ⟨fun _ => hp.n1, fun _ => ⟨Int.le_refl _, by show (0 : Int) ≤ 65535; decide⟩, hs.2.1, Nat.le_refl _, Nat.le_refl _, fun _ => ⟨rfl, rfl⟩⟩

/-- What stands behind the slots in the program's own run changes nothing. -/
def St.plain (s : St) : St := { s with env := { s.env with ex := fun _ => none } }
theorem reckon_plain (s : St) (op : Int) (d a b : Nat) : (s.reckon op d a b).plain = s.plain.reckon op d a b := by
  unfold St.reckon
  show (if reachE op (s.regs a) (s.regs b) < 0 then _ else _ : St).plain = if reachE op (s.regs a) (s.regs b) < 0 then _ else _
  by_cases h : reachE op (s.regs a) (s.regs b) < 0
  · rw [if_pos h, if_pos h]; rfl
  · rw [if_neg h, if_neg h]; rfl
theorem step_plain (x : In4) (s : St) : (stepSt x s).plain = stepSt x s.plain := by
  unfold stepSt
  have h1 : (preSt x s).plain = preSt x s.plain := by
    unfold preSt
    repeat' split
    all_goals rfl
  rw [← h1]
  generalize preSt x s = s1
  unfold doSt
  repeat' split
  all_goals first | rfl | exact reckon_plain _ _ _ _ _ | (exfalso; simp_all [St.plain]; done)
theorem run_plain (L : List In4) : ∀ (m : Nat) (s : St), (runSt L m s).plain = runSt L m s.plain
  | 0, _ => rfl
  | m + 1, s => by
    show (if s.on then _ else _ : St).plain = if s.on then _ else _
    cases s.on with
    | false => rfl
    | true => show (runSt L m (stepSt (inAt L s.at_) s)).plain = runSt L m (stepSt (inAt L s.at_) s.plain); rw [run_plain L m, step_plain]
theorem stU_plain (R : List Rg) (tv : Option Value) (xs : List Int) : (stU R tv xs).plain = stU R none xs := by
  unfold St.plain stU unitEnv
  simp

/-- The answer of a unit's run: its error, and what it came to. -/
noncomputable def runU (K S P V : Int) (L : List In4) (T : ByteArray) (R : List Rg) (xs : List Int) (fuel : Int) : Int × St :=
  if (unitE K S P V L T).1 ≠ 0 then ((unitE K S P V L T).1, zst) else if startE xs P fuel ≠ 0 then (startE xs P fuel, zst) else (0, runSt L fuel.toNat (stU R none xs))
end Go.Proofs.YtoepcplbpochpaaDoor
