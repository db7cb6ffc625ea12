/-
  Plain mathematics of a unit's run: what a table tells at a place; what a right unit keeps to, and that a run of it stays within.
-/
import Derived.Test.YtoepcplbpochpaaDoorPiece2
import Derived.Test.YtoepcplbpochpaaDoorPiece16
import Derived.Test.YtoepcplbpochpaaDoorPiece19
import Derived.Test.YtoepcplbpochpaaDoorPiece8
import Derived.Test.YtoepcplbpochpaaDoorPiece18
import Derived.Test.YtoepcplbpochpaaDoorPiece3

namespace Go.Proofs.YtoepcplbpochpaaDoor
open Go.RowKit

/-- What the place of a range holds. -/
def heldE (regs slots : Nat → Int) (r : Rg) : Int := if r.k = 0 then regs r.a.toNat else if r.k = 1 then slots r.a.toNat else r.a
/-- Does a range tell of the variable v at the place i? -/
def Hits (r : Rg) (i v : Nat) : Prop := r.v = (v : Int) ∧ r.f ≤ (i : Int) ∧ (i : Int) < r.t
def decHits (r : Rg) (i v : Nat) : Decidable (Hits r i v) := by unfold Hits; exact inferInstance
/-- What the first range that tells of it tells. -/
def toldFrom (R : List Rg) (regs slots : Nat → Int) (i v k : Nat) : Nat → Int
  | 0 => -1
  | m + 1 => @ite _ (Hits (rg R k) i v) (decHits _ _ _) (heldE regs slots (rg R k)) (toldFrom R regs slots i v (k + 1) m)
def toldE (R : List Rg) (regs slots : Nat → Int) (i v : Nat) : Int := toldFrom R regs slots i v 0 R.length
/-- What the last range that tells of it, of the first k, tells. -/
def toldTo (R : List Rg) (regs slots : Nat → Int) (i v : Nat) : Nat → Int
  | 0 => -1
  | k + 1 => @ite _ (Hits (rg R k) i v) (decHits _ _ _) (heldE regs slots (rg R k)) (toldTo R regs slots i v k)
theorem told_here {R : List Rg} {regs slots : Nat → Int} {i v k : Nat} (hk : k < R.length) (h : Hits (rg R k) i v) : toldFrom R regs slots i v k (R.length - k) = heldE regs slots (rg R k) := by
  obtain ⟨m, hm⟩ : ∃ m, R.length - k = m + 1 := ⟨R.length - k - 1, by omega⟩
  rw [hm]; exact @if_pos _ (decHits _ _ _) h _ _ _
theorem told_on {R : List Rg} {regs slots : Nat → Int} {i v k : Nat} (hk : k < R.length) (h : ¬ Hits (rg R k) i v) : toldFrom R regs slots i v k (R.length - k) = toldFrom R regs slots i v (k + 1) (R.length - (k + 1)) := by
  obtain ⟨m, hm⟩ : ∃ m, R.length - k = m + 1 := ⟨R.length - k - 1, by omega⟩
  rw [hm, show R.length - (k + 1) = m by omega]; exact @if_neg _ (decHits _ _ _) h _ _ _
theorem toldTo_hit {R : List Rg} {regs slots : Nat → Int} {i v k : Nat} (h : Hits (rg R k) i v) : toldTo R regs slots i v (k + 1) = heldE regs slots (rg R k) := @if_pos _ (decHits _ _ _) h _ _ _
theorem toldTo_miss {R : List Rg} {regs slots : Nat → Int} {i v k : Nat} (h : ¬ Hits (rg R k) i v) : toldTo R regs slots i v (k + 1) = toldTo R regs slots i v k := @if_neg _ (decHits _ _ _) h _ _ _

theorem hits_once {R : List Rg} (ht : isTab R = true) {i v j k : Nat} (hk : k < R.length) (hj : j < k) (h1 : Hits (rg R j) i v) (h2 : Hits (rg R k) i v) : False := by
  unfold isTab at ht
  rw [Bool.and_eq_true] at ht
  have h := tab_before ht.2 k hk j hj
  unfold before at h
  obtain ⟨a1, a2, a3⟩ := h1
  obtain ⟨b1, b2, b3⟩ := h2
  omega
theorem told_none {R : List Rg} {regs slots : Nat → Int} {i v : Nat} : ∀ m k, (∀ j, k ≤ j → j < k + m → ¬ Hits (rg R j) i v) → toldFrom R regs slots i v k m = -1
  | 0, _, _ => rfl
  | m + 1, k, h => by
    have h0 := h k (Nat.le_refl _) (by omega)
    show @ite _ (Hits (rg R k) i v) (decHits _ _ _) _ _ = _
    rw [@if_neg _ (decHits _ _ _) h0]
    exact told_none m (k + 1) (fun j h1 h2 => h j (by omega) (by omega))
/-- In a table the first and the last are one. -/
theorem told_same {R : List Rg} (ht : isTab R = true) {regs slots : Nat → Int} {i v : Nat} : ∀ k, k ≤ R.length → (∀ j, j < k → ¬ Hits (rg R j) i v) ∧ toldTo R regs slots i v k = -1 ∨ ∃ j, j < k ∧ Hits (rg R j) i v ∧ toldTo R regs slots i v k = heldE regs slots (rg R j)
  | 0, _ => .inl ⟨fun j hj => by omega, rfl⟩
  | k + 1, hk => by
    rcases told_same ht k (by omega) (regs := regs) (slots := slots) with ⟨h1, h2⟩ | ⟨j, hj, h1, h2⟩
    · rcases Classical.em (Hits (rg R k) i v) with h | h
      · exact .inr ⟨k, by omega, h, toldTo_hit h⟩
      · refine .inl ⟨fun j hj => ?_, (toldTo_miss h).trans h2⟩
        by_cases e : j = k
        · subst e; exact h
        · exact h1 j (by omega)
    · exact .inr ⟨j, by omega, h1, (toldTo_miss (fun h => hits_once ht (by omega) hj h1 h)).trans h2⟩
theorem told_first {R : List Rg} (ht : isTab R = true) {regs slots : Nat → Int} {i v j : Nat} (hj : j < R.length) (h : Hits (rg R j) i v) : ∀ m k, k + m = j → toldFrom R regs slots i v k (R.length - k) = heldE regs slots (rg R j)
  | 0, k, hk => by obtain rfl : k = j := by omega
                   exact told_here hj h
  | m + 1, k, hk => by
    rw [told_on (by omega) (fun h' => hits_once ht hj (show k < j by omega) h' h)]
    exact told_first ht hj h m (k + 1) (by omega)
theorem told_eq {R : List Rg} (ht : isTab R = true) (regs slots : Nat → Int) (i v : Nat) : toldTo R regs slots i v R.length = toldE R regs slots i v := by
  rcases told_same ht R.length (Nat.le_refl _) (regs := regs) (slots := slots) (i := i) (v := v) with ⟨h1, h2⟩ | ⟨j, hj, h1, h2⟩
  · rw [h2]; exact (told_none R.length 0 (fun j _ hj => h1 j (by omega))).symm
  · rw [h2]; exact (told_first ht hj h1 j 0 (by omega)).symm

/-- What a unit's run has for good. -/
def unitEnv (R : List Rg) (tv : Option Value) : Env := ⟨16, 2, fun o => if o = 39 then tv else none, toldE R⟩

theorem right_of_insU (x : In4) (K n S : Int) (h : insE false x K n 0 S = 0) : Right K n S x ∧ (x.op ≤ 11 ∨ 15 ≤ x.op) := by
  unfold insE at h
  by_cases ho : ¬ (0 ≤ x.op ∧ x.op < 17 ∧ opB false x.op.toNat = true)
  · rw [if_pos ho] at h; cases h
  rw [if_neg ho] at h
  have ho' := Classical.not_not.1 ho
  obtain ⟨o0, o17, ob⟩ := ho'
  obtain ⟨o, hop⟩ : ∃ o : Nat, x.op = (o : Int) := ⟨x.op.toNat, by omega⟩
  rw [hop, Int.toNat_natCast] at h ob
  have ho14 : o < 12 ∨ o = 15 ∨ o = 16 := by
    rcases (show o < 12 ∨ o = 12 ∨ o = 13 ∨ o = 14 ∨ o = 15 ∨ o = 16 by omega) with h | rfl | rfl | rfl | h | h
    · exact .inl h
    · cases ob
    · cases ob
    · cases ob
    · exact .inr (.inl h)
    · exact .inr (.inr h)
  have key : ∀ a b c : Int, (if a ≠ 0 then a else if b ≠ 0 then b else c) = 0 → a = 0 ∧ b = 0 ∧ c = 0 := fun a b c h => by
    by_cases ha : a = 0
    · by_cases hb : b = 0
      · rw [if_neg (fun k => k ha), if_neg (fun k => k hb)] at h; exact ⟨ha, hb, h⟩
      · rw [if_neg (fun k => k ha), if_pos hb] at h; exact absurd h hb
    · rw [if_pos ha] at h; exact absurd h ha
  obtain ⟨h1, h2, h3⟩ := key _ _ _ h
  clear h key ho ob
  obtain ⟨op, d, a, b⟩ := x
  simp only at *
  subst hop
  have f0 : ∀ (m r k v s : Int), fieldE 114 m r k v s = 0 → 0 ≤ m ∧ m < r := fun m r k v s h => by
    unfold fieldE at h; simp at h; omega
  have fc : ∀ (m r k v s : Int), fieldE 99 m r k v s = 0 → 0 ≤ m ∧ m ≤ 65535 := fun m r k v s h => by
    unfold fieldE at h; simp at h; omega
  have ft : ∀ (m r k v s : Int), fieldE 116 m r k v s = 0 → 0 ≤ m ∧ m < k := fun m r k v s h => by
    unfold fieldE at h; simp at h; omega
  have fs : ∀ (m r k v s : Int), fieldE 115 m r k v s = 0 → 0 ≤ m ∧ m ≤ 99 := fun m r k v s h => by
    unfold fieldE at h; simp at h; omega
  have ff : ∀ (m r k v s : Int), fieldE 102 m r k v s = 0 → 0 ≤ m ∧ m < s := fun m r k v s h => by
    unfold fieldE at h; simp at h; omega
  unfold Right
  simp only
  rcases (show o = 0 ∨ o = 1 ∨ o = 2 ∨ o = 3 ∨ o = 4 ∨ o = 5 ∨ o = 6 ∨ o = 7 ∨ o = 8 ∨ o = 9 ∨ o = 10 ∨ o = 11 ∨ o = 15 ∨ o = 16 by omega) with rfl | rfl | rfl | rfl | rfl | rfl | rfl | rfl | rfl | rfl | rfl | rfl | rfl | rfl
  · have g1 := f0 _ _ _ _ _ h1; have g2 := fc _ _ _ _ _ h2; omega
  · have g1 := f0 _ _ _ _ _ h1; have g2 := f0 _ _ _ _ _ h2; omega
  · have g1 := f0 _ _ _ _ _ h1; have g2 := f0 _ _ _ _ _ h2; have g3 := f0 _ _ _ _ _ h3; omega
  · have g1 := f0 _ _ _ _ _ h1; have g2 := f0 _ _ _ _ _ h2; have g3 := f0 _ _ _ _ _ h3; omega
  · have g1 := f0 _ _ _ _ _ h1; have g2 := f0 _ _ _ _ _ h2; have g3 := f0 _ _ _ _ _ h3; omega
  · have g1 := f0 _ _ _ _ _ h1; have g2 := f0 _ _ _ _ _ h2; have g3 := f0 _ _ _ _ _ h3; omega
  · have g1 := f0 _ _ _ _ _ h1; have g2 := f0 _ _ _ _ _ h2; have g3 := f0 _ _ _ _ _ h3; omega
  · have g2 := ft _ _ _ _ _ h2; omega
  · have g2 := f0 _ _ _ _ _ h2; have g3 := ft _ _ _ _ _ h3; omega
  · have g2 := f0 _ _ _ _ _ h2; omega
  · have g2 := f0 _ _ _ _ _ h2; omega
  · have g2 := fs _ _ _ _ _ h2; omega
  · have g1 := f0 _ _ _ _ _ h1; have g2 := ff _ _ _ _ _ h2; omega
  · have g1 := ff _ _ _ _ _ h1; have g2 := f0 _ _ _ _ _ h2; omega

/-- What a right unit keeps to. -/
structure RightU (K S P V : Int) (L : List In4) (R : List Rg) : Prop where
  k2 : 2 ≤ K
  k16 : K ≤ 16
  s0 : 0 ≤ S
  s16 : S ≤ 16
  p0 : 0 ≤ P
  p4 : P ≤ 4
  ps : P ≤ S
  v4 : V ≤ 4
  n1 : 1 ≤ L.length
  n164 : L.length ≤ 164
  ins : ∀ i, i < L.length → Right K L.length S (inAt L i)
  last : (inAt L (L.length - 1)).op = 7 ∨ (inAt L (L.length - 1)).op = 10
  low : ∀ i, i < L.length → (inAt L i).op ≤ 11 ∨ 15 ≤ (inAt L i).op
  tab : isTab R = true
  rgs : ∀ i, i < R.length → RgIn K S V L.length (rg R i)
theorem rightU_of (K S P V : Int) (L : List In4) (T : ByteArray) (h : (unitE K S P V L T).1 = 0) : ∃ R, TabS T R ∧ RightU K S P V L R := by
  by_cases hs : UnitBad K S P V L.length
  · rw [unitE_bad hs] at h; cases h
  · rw [unitE_good hs] at h
    by_cases hc : (codedE false L K 0 S).1 ≠ 0
    · rw [if_pos hc] at h; exact absurd h hc
    · rw [if_neg hc] at h
      have hc' := Classical.not_not.1 hc
      cases htb : tabB T K S V L.length with
      | false => rw [htb] at h; cases h
      | true =>
        obtain ⟨R, h1, h2⟩ := tabB_true htb
        obtain ⟨h3, h4⟩ := codedFrom_ok false L K 0 S L.length 0 (by omega) hc'
        obtain ⟨g1, g2, g3, g4, g5, g6, g7, g8, g9, g10, g11⟩ := unit_good hs
        exact ⟨R, h1, g1, g2, g3, g4, g5, g6, g7, g9, g10, g11, fun i hi => (right_of_insU _ _ _ _ (h3 i (Nat.zero_le _) hi)).1, h4, fun i hi => (right_of_insU _ _ _ _ (h3 i (Nat.zero_le _) hi)).2, h1.1, h2⟩

/-- What a unit's run keeps to. -/
structure StOkU (L : List In4) (s : St) : Prop where
  at_ : s.on = true → s.at_ < L.length
  regs : ∀ i, 0 ≤ s.regs i ∧ s.regs i ≤ 65535
  vars : ∀ i, 0 ≤ s.vars i ∧ s.vars i ≤ 65535
  outs : s.outs.length ≤ s.steps
  stops : s.stops.length ≤ s.steps
  kind : s.on = true → s.kind = 2 ∧ s.val = 0

set_option maxHeartbeats 2000000 in
/-- A step keeps to it, and counts one. -/
theorem stepU_ok {K S P V : Int} {L : List In4} {R : List Rg} (hp : RightU K S P V L R) {s : St} (h : StOkU L s) (hon : s.on = true) : StOkU L (stepSt (inAt L s.at_) s) ∧ (stepSt (inAt L s.at_) s).steps = s.steps + 1 ∧ (stepSt (inAt L s.at_) s).env = s.env := by
  have hat := h.at_ hon
  have hx := hp.ins s.at_ hat
  have hlow := hp.low s.at_ hat
  have hlast := hp.last
  obtain ⟨x, hxe⟩ : ∃ x, x = inAt L s.at_ := ⟨_, rfl⟩
  have hne : x.op ≠ 7 → x.op ≠ 10 → s.at_ + 1 < L.length := fun h7 h10 => by
    rcases Nat.lt_or_ge (s.at_ + 1) L.length with h | h
    · exact h
    · exfalso
      have : L.length - 1 = s.at_ := by omega
      rw [this, ← hxe] at hlast
      rcases hlast with h | h
      · exact h7 h
      · exact h10 h
  rw [← hxe] at hx hlow ⊢
  clear hlast hxe
  obtain ⟨o0, o16, rD, rA, rB, rC, rJ, rI, rS, _, rL, rT⟩ := hx
  have hk := h.kind hon
  have hok : ∀ s' : St, (s'.on = true → s'.at_ < L.length) → (∀ i, 0 ≤ s'.regs i ∧ s'.regs i ≤ 65535) → (∀ i, 0 ≤ s'.vars i ∧ s'.vars i ≤ 65535) → s'.outs.length ≤ s'.steps → s'.stops.length ≤ s'.steps → (s'.on = true → s'.kind = 2 ∧ s'.val = 0) → s'.steps = s.steps + 1 → s'.env = s.env → StOkU L s' ∧ s'.steps = s.steps + 1 ∧ s'.env = s.env :=
    fun s' a b c d e f g k => ⟨⟨a, b, c, d, e, f⟩, g, k⟩
  have ho := h.outs
  have hs := h.stops
  unfold stepSt
  have pre0 : x.op ≤ 10 → preSt x s = s := fun hl => by
    unfold preSt; rw [if_neg (by omega), if_neg (by omega), if_neg (by omega), if_neg (by omega), if_neg (by omega), if_neg (by omega)]
  rcases (show x.op = 0 ∨ x.op = 1 ∨ (2 ≤ x.op ∧ x.op ≤ 6) ∨ x.op = 7 ∨ x.op = 8 ∨ x.op = 9 ∨ x.op = 10 ∨ x.op = 11 ∨ x.op = 15 ∨ x.op = 16 by omega) with e | e | e | e | e | e | e | e | e | e
  · have : doSt x (preSt x s) = s.next.reg x.d.toNat x.a := by
      rw [pre0 (by omega)]; unfold doSt; rw [if_pos e]
    rw [this]
    exact hok _ (fun _ => hne (by omega) (by omega)) (upd_ok _ _ _ h.regs (rC (.inl e))) h.vars (Nat.le_succ_of_le ho) (Nat.le_succ_of_le hs) (fun _ => hk) rfl rfl
  · have : doSt x (preSt x s) = s.next.reg x.d.toNat (s.regs x.a.toNat) := by
      rw [pre0 (by omega)]; unfold doSt; rw [if_neg (by omega), if_pos e]
    rw [this]
    exact hok _ (fun _ => hne (by omega) (by omega)) (upd_ok _ _ _ h.regs (h.regs _)) h.vars (Nat.le_succ_of_le ho) (Nat.le_succ_of_le hs) (fun _ => hk) rfl rfl
  · have : doSt x (preSt x s) = s.next.reckon x.op x.d.toNat x.a.toNat x.b.toNat := by
      rw [pre0 (by omega)]; unfold doSt
      rw [if_neg (by omega), if_neg (by omega), if_neg (by omega), if_neg (by omega), if_neg (by omega), if_neg (by omega), if_pos e]
    rw [this]
    unfold St.reckon
    rcases reach_ok x.op (s.regs x.a.toNat) (s.regs x.b.toNat) (h.regs _) (h.regs _) with hr | hr
    · rw [if_pos (by show reachE x.op (s.regs x.a.toNat) (s.regs x.b.toNat) < 0; omega)]
      exact hok _ (fun k => by cases k) h.regs h.vars (Nat.le_succ_of_le ho) (Nat.le_succ_of_le hs) (fun k => by cases k) rfl rfl
    · rw [if_neg (by show ¬ reachE x.op (s.regs x.a.toNat) (s.regs x.b.toNat) < 0; omega)]
      exact hok _ (fun _ => hne (by omega) (by omega)) (upd_ok _ _ _ h.regs hr) h.vars (Nat.le_succ_of_le ho) (Nat.le_succ_of_le hs) (fun _ => hk) rfl rfl
  · have : doSt x (preSt x s) = s.next.goto x.a.toNat := by
      rw [pre0 (by omega)]; unfold doSt; rw [if_neg (by omega), if_neg (by omega), if_pos e]
    rw [this]
    exact hok _ (fun _ => by have := rJ e; show x.a.toNat < L.length; omega) h.regs h.vars (Nat.le_succ_of_le ho) (Nat.le_succ_of_le hs) (fun _ => hk) rfl rfl
  · have : doSt x (preSt x s) = if s.regs x.a.toNat = 0 then s.next else s.next.goto x.b.toNat := by
      rw [pre0 (by omega)]; unfold doSt; rw [if_neg (by omega), if_neg (by omega), if_neg (by omega), if_pos e]
    rw [this]
    by_cases hz : s.regs x.a.toNat = 0
    · rw [if_pos hz]
      exact hok _ (fun _ => hne (by omega) (by omega)) h.regs h.vars (Nat.le_succ_of_le ho) (Nat.le_succ_of_le hs) (fun _ => hk) rfl rfl
    · rw [if_neg hz]
      exact hok _ (fun _ => by have := rI e; show x.b.toNat < L.length; omega) h.regs h.vars (Nat.le_succ_of_le ho) (Nat.le_succ_of_le hs) (fun _ => hk) rfl rfl
  · have : doSt x (preSt x s) = s.next.out (s.regs x.a.toNat) := by
      rw [pre0 (by omega)]; unfold doSt; rw [if_neg (by omega), if_neg (by omega), if_neg (by omega), if_neg (by omega), if_pos e]
    rw [this]
    exact hok _ (fun _ => hne (by omega) (by omega)) h.regs h.vars (by show (s.outs ++ [_]).length ≤ s.steps + 1; rw [List.length_append]; exact Nat.succ_le_succ ho) (Nat.le_succ_of_le hs) (fun _ => hk) rfl rfl
  · have : doSt x (preSt x s) = s.next.ended 0 (s.regs x.a.toNat) := by
      rw [pre0 (by omega)]; unfold doSt; rw [if_neg (by omega), if_neg (by omega), if_neg (by omega), if_neg (by omega), if_neg (by omega), if_pos e]
    rw [this]
    exact hok _ (fun k => by cases k) h.regs h.vars (Nat.le_succ_of_le ho) (Nat.le_succ_of_le hs) (fun k => by cases k) rfl rfl
  all_goals
    have hd : ∀ s', doSt x s' = s'.next := fun s' => by
      unfold doSt; rw [if_neg (by omega), if_neg (by omega), if_neg (by omega), if_neg (by omega), if_neg (by omega), if_neg (by omega), if_neg (by omega)]
    rw [hd]
    unfold preSt
  · rw [if_pos e]
    exact hok _ (fun _ => hne (by omega) (by omega)) h.regs h.vars (Nat.le_succ_of_le ho) (by show (s.stops ++ [_]).length ≤ s.steps + 1; rw [List.length_append]; exact Nat.succ_le_succ hs) (fun _ => hk) rfl rfl
  · rw [if_neg (by omega), if_neg (by omega), if_neg (by omega), if_neg (by omega), if_pos e]
    exact hok _ (fun _ => hne (by omega) (by omega)) (upd_ok _ _ _ h.regs (h.vars _)) h.vars (Nat.le_succ_of_le ho) (Nat.le_succ_of_le hs) (fun _ => hk) rfl rfl
  · rw [if_neg (by omega), if_neg (by omega), if_neg (by omega), if_neg (by omega), if_neg (by omega), if_pos e]
    exact hok _ (fun _ => hne (by omega) (by omega)) h.regs (upd_ok _ _ _ h.vars (h.regs _)) (Nat.le_succ_of_le ho) (Nat.le_succ_of_le hs) (fun _ => hk) rfl rfl

/-- A unit's run begins. -/
def stU (R : List Rg) (tv : Option Value) (xs : List Int) : St := ⟨0, fun _ => 0, nth xs, true, 2, 0, 0, [], [], unitEnv R tv⟩
theorem stU_ok {K S P V fuel : Int} {L : List In4} {R : List Rg} {xs : List Int} (hp : RightU K S P V L R) (tv : Option Value) (h : startE xs P fuel = 0) : StOkU L (stU R tv xs) := by
  have hs := start_right h
  exact ⟨fun _ => hp.n1, fun _ => ⟨Int.le_refl _, by show (0 : Int) ≤ 65535; decide⟩, hs.2.1, Nat.le_refl _, Nat.le_refl _, fun _ => ⟨rfl, rfl⟩⟩

/-- What stands behind the slots in the program's own run changes nothing. -/
def St.plain (s : St) : St := { s with env := { s.env with ex := fun _ => none } }
theorem reckon_plain (s : St) (op : Int) (d a b : Nat) : (s.reckon op d a b).plain = s.plain.reckon op d a b := by
  unfold St.reckon
  show (if reachE op (s.regs a) (s.regs b) < 0 then _ else _ : St).plain = if reachE op (s.regs a) (s.regs b) < 0 then _ else _
  by_cases h : reachE op (s.regs a) (s.regs b) < 0
  · rw [if_pos h, if_pos h]; rfl
  · rw [if_neg h, if_neg h]; rfl
theorem step_plain (x : In4) (s : St) : (stepSt x s).plain = stepSt x s.plain := by
  unfold stepSt
  have h1 : (preSt x s).plain = preSt x s.plain := by
    unfold preSt
    repeat' split
    all_goals rfl
  rw [← h1]
  generalize preSt x s = s1
  unfold doSt
  repeat' split
  all_goals first | rfl | exact reckon_plain _ _ _ _ _ | (exfalso; simp_all [St.plain]; done)
theorem run_plain (L : List In4) : ∀ (m : Nat) (s : St), (runSt L m s).plain = runSt L m s.plain
  | 0, _ => rfl
  | m + 1, s => by
    show (if s.on then _ else _ : St).plain = if s.on then _ else _
    cases s.on with
    | false => rfl
    | true => show (runSt L m (stepSt (inAt L s.at_) s)).plain = runSt L m (stepSt (inAt L s.at_) s.plain); rw [run_plain L m, step_plain]
theorem stU_plain (R : List Rg) (tv : Option Value) (xs : List Int) : (stU R tv xs).plain = stU R none xs := by
  unfold St.plain stU unitEnv
  simp

/-- The answer of a unit's run: its error, and what it came to. -/
noncomputable def runU (K S P V : Int) (L : List In4) (T : ByteArray) (R : List Rg) (xs : List Int) (fuel : Int) : Int × St :=
  if (unitE K S P V L T).1 ≠ 0 then ((unitE K S P V L T).1, zst) else if startE xs P fuel ≠ 0 then (startE xs P fuel, zst) else (0, runSt L fuel.toNat (stU R none xs))
end Go.Proofs.YtoepcplbpochpaaDoor

/-
  Plain mathematics: the unit that Compile makes is right: its code.
-/
namespace Go.Proofs.YtoepcplbpochpaaDoor
open Go.RowKit

theorem field_r {m r k v s : Int} (h : 0 ≤ m ∧ m < r) : fieldE 114 m r k v s = 0 := by unfold fieldE; rw [if_pos rfl, if_neg (by omega)]
theorem field_c {m r k v s : Int} (h : 0 ≤ m ∧ m ≤ 65535) : fieldE 99 m r k v s = 0 := by unfold fieldE; rw [if_neg (by decide), if_pos rfl, if_neg (by omega)]
theorem field_t {m r k v s : Int} (h : 0 ≤ m ∧ m < k) : fieldE 116 m r k v s = 0 := by unfold fieldE; rw [if_neg (by decide), if_neg (by decide), if_pos rfl, if_neg (by omega)]
theorem field_s {m r k v s : Int} (h : 0 ≤ m ∧ m ≤ 99) : fieldE 115 m r k v s = 0 := by unfold fieldE; rw [if_neg (by decide), if_neg (by decide), if_neg (by decide), if_pos rfl, if_neg (by omega)]
theorem field_f {m r k v s : Int} (h : 0 ≤ m ∧ m < s) : fieldE 102 m r k v s = 0 := by unfold fieldE; rw [if_neg (by decide), if_neg (by decide), if_neg (by decide), if_neg (by decide), if_neg (by decide), if_pos rfl, if_neg (by omega)]
theorem field_n (m r k v s : Int) : fieldE 45 m r k v s = 0 := by unfold fieldE; rw [if_neg (by decide), if_neg (by decide), if_neg (by decide), if_neg (by decide), if_neg (by decide), if_neg (by decide)]
theorem insU_zero {x : In4} {K n S : Int} (h : Right K n S x) (hl : x.op ≤ 11 ∨ 15 ≤ x.op) : insE false x K n 0 S = 0 := by
  obtain ⟨o0, o16, rD, rA, rB, rC, rJ, rI, rS, _, rL, rT⟩ := h
  have key : ∀ (o : Nat), x.op = (o : Int) → o < 17 → opB false o = true → fieldE (letterAt o 0) x.d K n 0 S = 0 → fieldE (letterAt o 1) x.a K n 0 S = 0 → fieldE (letterAt o 2) x.b K n 0 S = 0 → insE false x K n 0 S = 0 := fun o h1 h2 h3 h4 h5 h6 => by
    rw [insE_good h1 h2 h3, if_neg (fun k => k h4), if_neg (fun k => k h5)]; exact h6
  rcases (show x.op = 0 ∨ x.op = 1 ∨ x.op = 2 ∨ x.op = 3 ∨ x.op = 4 ∨ x.op = 5 ∨ x.op = 6 ∨ x.op = 7 ∨ x.op = 8 ∨ x.op = 9 ∨ x.op = 10 ∨ x.op = 11 ∨ x.op = 15 ∨ x.op = 16 by omega) with e | e | e | e | e | e | e | e | e | e | e | e | e | e
  · exact key 0 e (by decide) rfl (field_r (rD (.inl e))) (field_c (rC (.inl e))) (field_n _ _ _ _ _)
  · exact key 1 e (by decide) rfl (field_r (rD (.inr (.inl e)))) (field_r (rA (.inl e))) (field_n _ _ _ _ _)
  · exact key 2 e (by decide) rfl (field_r (rD (.inr (.inr (by omega))))) (field_r (rA (.inr (.inl (by omega))))) (field_r (rB (by omega)))
  · exact key 3 e (by decide) rfl (field_r (rD (.inr (.inr (by omega))))) (field_r (rA (.inr (.inl (by omega))))) (field_r (rB (by omega)))
  · exact key 4 e (by decide) rfl (field_r (rD (.inr (.inr (by omega))))) (field_r (rA (.inr (.inl (by omega))))) (field_r (rB (by omega)))
  · exact key 5 e (by decide) rfl (field_r (rD (.inr (.inr (by omega))))) (field_r (rA (.inr (.inl (by omega))))) (field_r (rB (by omega)))
  · exact key 6 e (by decide) rfl (field_r (rD (.inr (.inr (by omega))))) (field_r (rA (.inr (.inl (by omega))))) (field_r (rB (by omega)))
  · exact key 7 e (by decide) rfl (field_n _ _ _ _ _) (field_t (rJ e)) (field_n _ _ _ _ _)
  · exact key 8 e (by decide) rfl (field_n _ _ _ _ _) (field_r (rA (.inr (.inr (.inl e))))) (field_t (rI e))
  · exact key 9 e (by decide) rfl (field_n _ _ _ _ _) (field_r (rA (.inr (.inr (.inr (.inl e)))))) (field_n _ _ _ _ _)
  · exact key 10 e (by decide) rfl (field_n _ _ _ _ _) (field_r (rA (.inr (.inr (.inr (.inr (.inl e))))))) (field_n _ _ _ _ _)
  · exact key 11 e (by decide) rfl (field_n _ _ _ _ _) (field_s (rS e)) (field_n _ _ _ _ _)
  · exact key 15 e (by decide) rfl (field_r (rL e).1) (field_f (rL e).2) (field_n _ _ _ _ _)
  · exact key 16 e (by decide) rfl (field_f (rT e).1) (field_r (rT e).2) (field_n _ _ _ _ _)

/-- What is written, ahead of its targets being set: registers and slots that there are; its targets places of the program. -/
def UOk (K S : Int) (n : Nat) (y : In4) : Prop := Right K n S y ∧ (y.op ≤ 11 ∨ 15 ≤ y.op)
theorem right_mk {K n S : Int} {x : In4} (o0 : 0 ≤ x.op) (o16 : x.op ≤ 16) (hn : ¬ (12 ≤ x.op ∧ x.op ≤ 14)) (hd : (x.op = 0 ∨ x.op = 1 ∨ (2 ≤ x.op ∧ x.op ≤ 6)) → 0 ≤ x.d ∧ x.d < K) (ha : (x.op = 1 ∨ (2 ≤ x.op ∧ x.op ≤ 6) ∨ x.op = 8 ∨ x.op = 9 ∨ x.op = 10) → 0 ≤ x.a ∧ x.a < K)
    (hb : (2 ≤ x.op ∧ x.op ≤ 6) → 0 ≤ x.b ∧ x.b < K) (hc : x.op = 0 → 0 ≤ x.a ∧ x.a ≤ 65535) (h7 : x.op = 7 → 0 ≤ x.a ∧ x.a < n) (h8 : x.op = 8 → 0 ≤ x.b ∧ x.b < n) (h11 : x.op = 11 → 0 ≤ x.a ∧ x.a ≤ 99)
    (h15 : x.op = 15 → (0 ≤ x.d ∧ x.d < K) ∧ 0 ≤ x.a ∧ x.a < S) (h16 : x.op = 16 → (0 ≤ x.d ∧ x.d < S) ∧ 0 ≤ x.a ∧ x.a < K) : Right K n S x :=
  ⟨o0, o16, hd, fun h => ha (by omega), hb, fun h => hc (by omega), h7, h8, h11, fun h => absurd h hn, h15, h16⟩

/-- Homes that there are. -/
structure HomOk (hs : Nat → Bool) (ha : Nat → Nat) (R K S : Nat) : Prop where
  k2 : 2 ≤ K
  reg : ∀ r, r < R → hs r = false → ha r < K
  slot : ∀ r, r < R → hs r = true → ha r < S
theorem fetR_ok {hs : Nat → Bool} {ha : Nat → Nat} {R K S : Nat} (h : HomOk hs ha R K S) {r n : Nat} (hr : r < R) (hn : n ≤ 1) : 0 ≤ fetR hs ha K r n ∧ fetR hs ha K r n < K := by
  have := h.k2
  unfold fetR
  cases e : hs r with
  | true => rw [if_pos rfl]; omega
  | false => rw [if_neg (by decide)]; have := h.reg r hr e; omega
theorem goalR_ok {hs : Nat → Bool} {ha : Nat → Nat} {R K S : Nat} (h : HomOk hs ha R K S) {r : Nat} (hr : r < R) : 0 ≤ goalR hs ha K r ∧ goalR hs ha K r < K := by
  have := h.k2
  unfold goalR
  cases e : hs r with
  | true => rw [if_pos rfl]; omega
  | false => rw [if_neg (by decide)]; have := h.reg r hr e; omega
theorem u_load {K S : Int} {n : Nat} {d a : Int} (hd : 0 ≤ d ∧ d < K) (ha : 0 ≤ a ∧ a < S) : UOk K S n ⟨15, d, a, 0⟩ :=
  ⟨right_mk (by show (0 : Int) ≤ 15; decide) (by show (15 : Int) ≤ 16; decide) (by show ¬ ((12 : Int) ≤ 15 ∧ (15 : Int) ≤ 14); decide) (fun h => by simp at h) (fun h => by simp at h) (fun h => by simp at h) (fun h => by simp at h) (fun h => by simp at h) (fun h => by simp at h) (fun h => by simp at h) (fun _ => ⟨hd, ha⟩) (fun h => by simp at h), .inr (by show (15 : Int) ≤ 15; decide)⟩
theorem u_store {K S : Int} {n : Nat} {d a : Int} (hd : 0 ≤ d ∧ d < S) (ha : 0 ≤ a ∧ a < K) : UOk K S n ⟨16, d, a, 0⟩ :=
  ⟨right_mk (by show (0 : Int) ≤ 16; decide) (by show (16 : Int) ≤ 16; decide) (by show ¬ ((12 : Int) ≤ 16 ∧ (16 : Int) ≤ 14); decide) (fun h => by simp at h) (fun h => by simp at h) (fun h => by simp at h) (fun h => by simp at h) (fun h => by simp at h) (fun h => by simp at h) (fun h => by simp at h) (fun h => by simp at h) (fun _ => ⟨hd, ha⟩), .inr (by show (15 : Int) ≤ 16; decide)⟩
theorem fetC_ok {hs : Nat → Bool} {ha : Nat → Nat} {R K S n : Nat} (h : HomOk hs ha R K S) {r m : Nat} (hr : r < R) (hm : m ≤ 1) : ∀ y ∈ fetC hs ha K r m, UOk K S n y := fun y hy => by
  have := h.k2
  unfold fetC at hy
  cases e : hs r with
  | true => rw [e, if_pos rfl, List.mem_singleton] at hy; subst hy; exact u_load (by omega) (by have := h.slot r hr e; omega)
  | false => rw [e, if_neg (by decide)] at hy; cases hy
theorem keepC_ok {hs : Nat → Bool} {ha : Nat → Nat} {R K S n : Nat} (h : HomOk hs ha R K S) {r : Nat} (hr : r < R) : ∀ y ∈ keepC hs ha K r, UOk K S n y := fun y hy => by
  have := h.k2
  unfold keepC at hy
  cases e : hs r with
  | true => rw [e, if_pos rfl, List.mem_singleton] at hy; subst hy; exact u_store (by have := h.slot r hr e; omega) (by omega)
  | false => rw [e, if_neg (by decide)] at hy; cases hy
theorem insC_ok {hs : Nat → Bool} {ha : Nat → Nat} {R K S n : Nat} {V : Int} (h : HomOk hs ha R K S) {x : In4} (hx : Right R n V x) : ∀ y ∈ insC hs ha K x, UOk K S n y := fun y hy => by
  obtain ⟨o0, _, rD, rA, rB, rC, rJ, rI, rS, _, _, _⟩ := hx
  unfold insC at hy
  split at hy
  · rename_i e
    have hd := rD (.inl e)
    have hdn : x.d.toNat < R := by omega
    rw [List.mem_append, List.mem_singleton] at hy
    rcases hy with rfl | hy
    · exact ⟨right_mk (by show (0 : Int) ≤ 0; decide) (by show (0 : Int) ≤ 16; decide) (by show ¬ ((12 : Int) ≤ 0 ∧ (0 : Int) ≤ 14); decide) (fun _ => goalR_ok h hdn) (fun k => by simp at k) (fun k => by simp at k) (fun _ => rC (.inl e)) (fun k => by simp at k) (fun k => by simp at k) (fun k => by simp at k) (fun k => by simp at k) (fun k => by simp at k), .inl (by show (0 : Int) ≤ 11; decide)⟩
    · exact keepC_ok h hdn y hy
  split at hy
  · rename_i e
    have hd := rD (.inr (.inl e))
    have ha' := rA (.inl e)
    have hdn : x.d.toNat < R := by omega
    have han : x.a.toNat < R := by omega
    unfold copyC at hy
    cases ed : hs x.d.toNat with
    | true =>
      rw [ed, if_pos rfl, List.mem_append, List.mem_singleton] at hy
      rcases hy with hy | rfl
      · exact fetC_ok h han (by omega) y hy
      · exact u_store (by have := h.slot _ hdn ed; omega) (fetR_ok h han (by omega))
    | false =>
      rw [ed, if_neg (by decide)] at hy
      have hdk := h.reg _ hdn ed
      cases ea : hs x.a.toNat with
      | true => rw [ea, if_pos rfl, List.mem_singleton] at hy; subst hy; exact u_load (by omega) (by have := h.slot _ han ea; omega)
      | false =>
        rw [ea, if_neg (by decide), List.mem_singleton] at hy; subst hy
        have hak := h.reg _ han ea
        exact ⟨right_mk (by show (0 : Int) ≤ 1; decide) (by show (1 : Int) ≤ 16; decide) (by show ¬ ((12 : Int) ≤ 1 ∧ (1 : Int) ≤ 14); decide) (fun _ => ⟨by show (0 : Int) ≤ (ha x.d.toNat : Int); omega, by show (ha x.d.toNat : Int) < K; omega⟩) (fun _ => ⟨by show (0 : Int) ≤ (ha x.a.toNat : Int); omega, by show (ha x.a.toNat : Int) < K; omega⟩) (fun k => by simp at k) (fun k => by simp at k) (fun k => by simp at k) (fun k => by simp at k) (fun k => by simp at k) (fun k => by simp at k) (fun k => by simp at k), .inl (by show (1 : Int) ≤ 11; decide)⟩
  split at hy
  · rename_i e
    have hd := rD (.inr (.inr e))
    have ha' := rA (.inr (.inl e))
    have hb := rB e
    have hdn : x.d.toNat < R := by omega
    have han : x.a.toNat < R := by omega
    have hbn : x.b.toNat < R := by omega
    rw [List.mem_append, List.mem_append, List.mem_append, List.mem_singleton] at hy
    rcases hy with ((hy | hy) | rfl) | hy
    · exact fetC_ok h han (by omega) y hy
    · exact fetC_ok h hbn (by omega) y hy
    · exact ⟨right_mk o0 (by show x.op ≤ 16; omega) (by show ¬ ((12 : Int) ≤ x.op ∧ x.op ≤ 14); omega) (fun _ => goalR_ok h hdn) (fun _ => fetR_ok h han (by omega)) (fun _ => fetR_ok h hbn (by omega)) (fun k => by have k' : x.op = 0 := k; omega) (fun k => by have k' : x.op = 7 := k; omega) (fun k => by have k' : x.op = 8 := k; omega) (fun k => by have k' : x.op = 11 := k; omega) (fun k => by have k' : x.op = 15 := k; omega) (fun k => by have k' : x.op = 16 := k; omega), .inl (by show x.op ≤ 11; omega)⟩
    · exact keepC_ok h hdn y hy
  split at hy
  · rename_i e
    have ha' := rA (.inr (.inr (.inl e)))
    have han : x.a.toNat < R := by omega
    rw [List.mem_append, List.mem_singleton] at hy
    rcases hy with hy | rfl
    · exact fetC_ok h han (by omega) y hy
    · exact ⟨right_mk (by show (0 : Int) ≤ 8; decide) (by show (8 : Int) ≤ 16; decide) (by show ¬ ((12 : Int) ≤ 8 ∧ (8 : Int) ≤ 14); decide) (fun k => by simp at k) (fun _ => fetR_ok h han (by omega)) (fun k => by simp at k) (fun k => by simp at k) (fun k => by simp at k) (fun _ => rI e) (fun k => by simp at k) (fun k => by simp at k) (fun k => by simp at k), .inl (by show (8 : Int) ≤ 11; decide)⟩
  split at hy
  · rename_i e
    have ha' := rA (by omega)
    have han : x.a.toNat < R := by omega
    rw [List.mem_append, List.mem_singleton] at hy
    rcases hy with hy | rfl
    · exact fetC_ok h han (by omega) y hy
    · exact ⟨right_mk o0 (by show x.op ≤ 16; omega) (by show ¬ ((12 : Int) ≤ x.op ∧ x.op ≤ 14); omega) (fun k => by have k' : x.op = 0 ∨ x.op = 1 ∨ (2 ≤ x.op ∧ x.op ≤ 6) := k; omega) (fun _ => fetR_ok h han (by omega)) (fun k => by have k' : 2 ≤ x.op ∧ x.op ≤ 6 := k; omega) (fun k => by have k' : x.op = 0 := k; omega) (fun k => by have k' : x.op = 7 := k; omega) (fun k => by have k' : x.op = 8 := k; omega) (fun k => by have k' : x.op = 11 := k; omega) (fun k => by have k' : x.op = 15 := k; omega) (fun k => by have k' : x.op = 16 := k; omega), .inl (by show x.op ≤ 11; omega)⟩
  split at hy
  · rename_i e
    rw [List.mem_singleton] at hy; subst hy
    exact ⟨right_mk o0 (by show x.op ≤ 16; omega) (by show ¬ ((12 : Int) ≤ x.op ∧ x.op ≤ 14); omega) (fun k => by have k' : x.op = 0 ∨ x.op = 1 ∨ (2 ≤ x.op ∧ x.op ≤ 6) := k; omega) (fun k => by have k' : x.op = 1 ∨ (2 ≤ x.op ∧ x.op ≤ 6) ∨ x.op = 8 ∨ x.op = 9 ∨ x.op = 10 := k; omega) (fun k => by have k' : 2 ≤ x.op ∧ x.op ≤ 6 := k; omega) (fun k => by have k' : x.op = 0 := k; omega) (fun k => rJ k) (fun k => by have k' : x.op = 8 := k; omega) (fun k => rS k) (fun k => by have k' : x.op = 15 := k; omega) (fun k => by have k' : x.op = 16 := k; omega), .inl (by show x.op ≤ 11; omega)⟩
  · cases hy
theorem loadC_ok {hs : Nat → Bool} {ha : Nat → Nat} {s : Nat → Bool} {R K S n P : Nat} (h : HomOk hs ha R K S) (hPR : P ≤ R) (hPS : P ≤ S) : ∀ k, k ≤ P → ∀ y ∈ loadC hs ha s k, UOk K S n y
  | 0, _, y, hy => by cases hy
  | k + 1, hk, y, hy => by
    have hy' : y ∈ loadC hs ha s k ++ if (s k && !hs k) = true then [⟨15, ha k, k, 0⟩] else [] := hy
    rw [List.mem_append] at hy'
    rcases hy' with hy | hy
    · exact loadC_ok h hPR hPS k (by omega) y hy
    · by_cases e : (s k && !hs k) = true
      · rw [if_pos e, List.mem_singleton] at hy; subst hy
        rw [Bool.and_eq_true] at e
        have e2 : hs k = false := by cases h : hs k; rfl; rw [h] at e; cases e.2
        exact u_load (by have := h.reg k (by omega) e2; omega) (by omega)
      · rw [if_neg e] at hy; cases hy
theorem wTo_ok {hs : Nat → Bool} {ha : Nat → Nat} {s : Nat → Bool} {R K S P : Nat} {V : Int} {L : List In4} (h : HomOk hs ha R K S) (hPR : P ≤ R) (hPS : P ≤ S) (hL : ∀ i, i < L.length → Right R L.length V (inAt L i)) : ∀ i, i ≤ L.length → ∀ y ∈ wTo hs ha K s P L i, UOk K S L.length y
  | 0, _, y, hy => loadC_ok h hPR hPS P (Nat.le_refl _) y hy
  | i + 1, hi, y, hy => by
    have hy' : y ∈ wTo hs ha K s P L i ++ insC hs ha K (inAt L i) := hy
    rw [List.mem_append] at hy'
    rcases hy' with hy | hy
    · exact wTo_ok h hPR hPS hL i (by omega) y hy
    · exact insC_ok h (hL i (by omega)) y hy
end Go.Proofs.YtoepcplbpochpaaDoor

/-
  Plain mathematics: the code of the unit that Compile makes is right.
-/
namespace Go.Proofs.YtoepcplbpochpaaDoor
open Go.RowKit

theorem kept_le (L : List In4) (R K : Nat) : keptB L R K ≤ K := by unfold keptB; split <;> omega
theorem hom_no {L : List In4} {R K r : Nat} (hr : r < R) (h : homS L R K r = false) : homA L R K r = colB L R r ∧ colB L R r < keptB L R K := by
  refine ⟨by unfold homA; rw [h, if_neg (by decide)], ?_⟩
  unfold homS at h
  rw [decide_eq_true hr, Bool.true_and, decide_eq_false_iff_not] at h
  omega
theorem hom_yes {L : List In4} {R K r : Nat} (h : homS L R K r = true) : homA L R K r = r ∧ r < R ∧ keptB L R K ≤ colB L R r := by
  refine ⟨by unfold homA; rw [if_pos h], ?_⟩
  unfold homS at h
  rw [Bool.and_eq_true, decide_eq_true_iff, decide_eq_true_iff] at h
  exact h
theorem slots_bound (L : List In4) (P R K : Nat) (hPR : P ≤ R) : P ≤ slotsB L P R K ∧ slotsB L P R K ≤ R := by
  have := sl_ge (homS L R K) P (R - P)
  unfold slotsB
  exact ⟨this.1, by omega⟩
theorem hom_ok (L : List In4) (P R K : Nat) (hK : 2 ≤ K) (hPR : P ≤ R) : HomOk (homS L R K) (homA L R K) R K (slotsB L P R K) := by
  have hsl := sl_ge (homS L R K) P (R - P)
  refine ⟨hK, fun r hr h => ?_, fun r hr h => ?_⟩
  · have := hom_no hr h; have := kept_le L R K; omega
  · rw [(hom_yes h).1]
    by_cases e : r < P
    · have := (slots_bound L P R K hPR).1; omega
    · exact hsl.2.2 r (by omega) (by omega) h

theorem wTo_mono (hs : Nat → Bool) (ha : Nat → Nat) (K : Nat) (s : Nat → Bool) (P : Nat) (L : List In4) (i : Nat) : ∀ d, (wTo hs ha K s P L i).length ≤ (wTo hs ha K s P L (i + d)).length
  | 0 => Nat.le_refl _
  | d + 1 => by
    refine Nat.le_trans (wTo_mono hs ha K s P L i d) ?_
    show _ ≤ (wTo hs ha K s P L (i + d) ++ _).length
    rw [List.length_append]; omega
theorem insC_pos {hs : Nat → Bool} {ha : Nat → Nat} {K : Nat} {x : In4} (h : x.op ≤ 11) (h0 : 0 ≤ x.op) : 1 ≤ (insC hs ha K x).length := by
  unfold insC
  split
  · rw [List.length_append]; simp
  split
  · exact (copyC_len hs ha K _ _).1
  split
  · rw [List.length_append, List.length_append, List.length_append]; simp; omega
  split
  · rw [List.length_append]; simp
  split
  · rw [List.length_append]; simp
  split
  · simp
  · omega
theorem st_lt {hs : Nat → Bool} {ha : Nat → Nat} {K : Nat} {s : Nat → Bool} {P : Nat} {L : List In4} (hn : 1 ≤ L.length) (hl : (inAt L (L.length - 1)).op = 7 ∨ (inAt L (L.length - 1)).op = 10) {i : Nat} (hi : i < L.length) : (wTo hs ha K s P L i).length < (wTo hs ha K s P L L.length).length := by
  obtain ⟨m, hm⟩ : ∃ m, L.length = m + 1 := ⟨L.length - 1, by omega⟩
  have h1 := wTo_mono hs ha K s P L i (m - i)
  rw [show i + (m - i) = m by omega] at h1
  rw [hm, show m + 1 - 1 = m by omega] at hl
  have h2 : 1 ≤ (insC hs ha K (inAt L m)).length := insC_pos (by omega) (by omega)
  rw [hm]
  show _ < (wTo hs ha K s P L m ++ insC hs ha K (inAt L m)).length
  rw [List.length_append]; omega
theorem inAt_map (f : In4 → In4) {C : List In4} {i : Nat} (h : i < C.length) : inAt (C.map f) i = f (inAt C i) := by
  unfold inAt
  rw [List.getD_eq_getElem?_getD, List.getD_eq_getElem?_getD, List.getElem?_map, List.getElem?_eq_getElem h]; rfl
theorem tgt_op (st : Nat → Nat) (x : In4) : (tgt st x).op = x.op := by unfold tgt; split; rfl; split <;> rfl
theorem tgt_right {K S : Int} {n m : Nat} {st : Nat → Nat} {y : In4} (h : Right K n S y) (hst : ∀ i, i < n → st i < m) : Right K m S (tgt st y) := by
  obtain ⟨o0, o16, rD, rA, rB, rC, rJ, rI, rS, rV, rL, rT⟩ := h
  unfold tgt
  by_cases h7 : y.op = 7
  · rw [if_pos h7]
    have := rJ h7
    have := hst y.a.toNat (by omega)
    refine ⟨o0, o16, rD, fun h => ?_, rB, fun h => ?_, fun _ => ?_, fun h => ?_, fun h => ?_, rV, fun h => ?_, fun h => ?_⟩
    all_goals simp only at *
    all_goals omega
  rw [if_neg h7]
  by_cases h8 : y.op = 8
  · rw [if_pos h8]
    have := rI h8
    have := hst y.b.toNat (by omega)
    refine ⟨o0, o16, rD, rA, fun h => ?_, rC, fun h => ?_, fun _ => ?_, rS, rV, rL, rT⟩
    all_goals simp only at *
    all_goals omega
  · rw [if_neg h8]
    exact ⟨o0, o16, rD, rA, rB, rC, fun h => absurd h h7, fun h => absurd h h8, rS, rV, rL, rT⟩
theorem codedFrom_zero {p : Bool} {L : List In4} {r v s : Int} (hi : ∀ i, i < L.length → insE p (inAt L i) r L.length v s = 0) (hl : (inAt L (L.length - 1)).op = 7 ∨ (inAt L (L.length - 1)).op = 10) : ∀ m k, k + m = L.length → codedFrom p L r v s k m = (0, 0)
  | 0, k, _ => by unfold codedFrom; rw [if_neg (by omega)]
  | m + 1, k, hk => by
    unfold codedFrom
    rw [if_neg (fun h => h (hi k (by omega)))]
    exact codedFrom_zero hi hl m (k + 1) (by omega)
theorem inAt_last (A : List In4) (x : In4) : inAt (A ++ [x]) ((A ++ [x]).length - 1) = x := by
  unfold inAt; rw [List.getD_eq_getElem?_getD, List.length_append]; simp
theorem inAt_tail (A B : List In4) (hB : 1 ≤ B.length) : inAt (A ++ B) ((A ++ B).length - 1) = inAt B (B.length - 1) := by
  unfold inAt
  rw [List.getD_eq_getElem?_getD, List.getD_eq_getElem?_getD, List.length_append, List.getElem?_append_right (by omega), show A.length + B.length - 1 - A.length = B.length - 1 by omega]
/-- The code of the unit. -/
theorem code_right {P R V K : Nat} {L : List In4} (hp : RightP P R V L) (hK : 2 ≤ K) {C : List In4} (hC : C = codeB (homS L R K) (homA L R K) K (liveB L 0) P L) :
    (∀ i, i < C.length → Right K C.length (slotsB L P R K) (inAt C i) ∧ ((inAt C i).op ≤ 11 ∨ 15 ≤ (inAt C i).op)) ∧ ((inAt C (C.length - 1)).op = 7 ∨ (inAt C (C.length - 1)).op = 10) ∧ 1 ≤ C.length ∧ C.length ≤ P + 4 * L.length := by
  obtain ⟨W, hW⟩ : ∃ W, W = wTo (homS L R K) (homA L R K) K (liveB L 0) P L L.length := ⟨_, rfl⟩
  have hPR : P ≤ R := by have := hp.pr; omega
  have hlen : C.length = W.length := by rw [hC, hW]; unfold codeB; rw [List.length_map]
  have hpos := wTo_pos (homS L R K) (homA L R K) K (liveB L 0) P hp.n1 hp.last
  have hst : ∀ i, i < L.length → stF (homS L R K) (homA L R K) K (liveB L 0) P L L.length i < C.length := fun i hi => by
    unfold stF; rw [if_pos hi, hlen, hW]; exact st_lt hp.n1 hp.last hi
  have hok := wTo_ok (s := liveB L 0) (hom_ok L P R K hK hPR) hPR (slots_bound L P R K hPR).1 hp.ins L.length (Nat.le_refl _)
  have hat : ∀ i, i < C.length → inAt C i = tgt (stF (homS L R K) (homA L R K) K (liveB L 0) P L L.length) (inAt W i) := fun i hi => by
    rw [hC, hW]; unfold codeB; exact inAt_map _ (by rw [← hW, ← hlen]; exact hi)
  refine ⟨fun i hi => ?_, ?_, by rw [hlen, hW]; exact hpos, by rw [hlen, hW]; exact wTo_len _ _ _ _ _ _ _⟩
  · have hu := hok (inAt W i) (by rw [← hW]; exact inAt_mem (by rw [← hlen]; exact hi))
    rw [hat i hi, tgt_op]
    exact ⟨tgt_right hu.1 hst, hu.2⟩
  · rw [hat _ (by rw [hlen, hW]; omega), tgt_op, hlen]
    obtain ⟨m, hm⟩ : ∃ m, L.length = m + 1 := ⟨L.length - 1, by have := hp.n1; omega⟩
    have hl := hp.last
    rw [hm, show m + 1 - 1 = m by omega] at hl
    have e : W = wTo (homS L R K) (homA L R K) K (liveB L 0) P L m ++ insC (homS L R K) (homA L R K) K (inAt L m) := by rw [hW, hm]; rfl
    rw [e, inAt_tail _ _ (insC_pos (by omega) (by omega))]
    unfold insC
    rcases hl with h | h
    · rw [if_neg (by omega), if_neg (by omega), if_neg (by omega), if_neg (by omega), if_neg (by omega), if_pos (.inl h)]
      left; exact h
    · rw [if_neg (by omega), if_neg (by omega), if_neg (by omega), if_neg (by omega), if_pos (.inr h), inAt_last]
      right; exact h
theorem code_coded {P R V K : Nat} {L : List In4} (hp : RightP P R V L) (hK : 2 ≤ K) : codedE false (codeB (homS L R K) (homA L R K) K (liveB L 0) P L) K 0 (slotsB L P R K) = (0, 0) := by
  obtain ⟨h1, h2, _, _⟩ := code_right hp hK rfl
  unfold codedE
  exact codedFrom_zero (fun i hi => insU_zero (h1 i hi).1 (h1 i hi).2) h2 _ 0 (by omega)
end Go.Proofs.YtoepcplbpochpaaDoor
