/-
  Plain mathematics: other Binds, Ties and Frees change nothing of the code.
-/
import Derived.Test.YtoepcplbpochpabDoorPart17
import Derived.Test.YtoepcplbpochpabDoorPart21
import Derived.Test.YtoepcplbpochpabDoorPart15
import Derived.Deep.QuietTactic
import Derived.BigQuiet
import Derived.Handy
import Derived.Deep.RegionHeld3
import Derived.Test.YtoepcplbpochpabDoorPart24

namespace Go.Proofs.YtoepcplbpochpabDoor
open Go.RowKit

/-- The same instruction, or two that say something of variables. -/
def Twin (x y : In4) : Prop := x = y ∨ ((12 ≤ x.op ∧ x.op ≤ 14) ∧ 12 ≤ y.op ∧ y.op ≤ 14)
theorem nx1_calm {x : In4} (h : 12 ≤ x.op ∧ x.op ≤ 14) (i : Nat) : nx1 x i = (i : Int) + 1 := by unfold nx1; rw [if_neg (by omega), if_neg (by omega), if_neg (by omega)]
theorem nx2_calm {x : In4} (h : 12 ≤ x.op ∧ x.op ≤ 14) (i : Nat) : nx2 x i = -1 := by unfold nx2; rw [if_neg (by omega)]
theorem wr_calm {x : In4} (h : 12 ≤ x.op ∧ x.op ≤ 14) : isWr x.op = false := by
  unfold isWr isRk
  rw [show (x.op == 0) = false by rw [beq_eq_false_iff_ne]; omega, show (x.op == 1) = false by rw [beq_eq_false_iff_ne]; omega, show decide (x.op ≤ 6) = false by rw [decide_eq_false_iff_not]; omega]
  simp
theorem rd_calm {x : In4} (h : 12 ≤ x.op ∧ x.op ≤ 14) (r : Int) : rdB x r = false := by
  unfold rdB isRk
  rw [if_neg (by omega), show decide (x.op ≤ 6) = false by rw [decide_eq_false_iff_not]; omega]
  simp
theorem insC_calm {hs : Nat → Bool} {ha : Nat → Nat} {K : Nat} {x : In4} (h : 12 ≤ x.op ∧ x.op ≤ 14) : insC hs ha K x = [] := by
  unfold insC
  rw [if_neg (by omega), if_neg (by omega), if_neg (by omega), if_neg (by omega), if_neg (by omega), if_neg (by omega)]
theorem Twin.nx1 {x y : In4} (h : Twin x y) (i : Nat) : nx1 x i = nx1 y i := by
  rcases h with rfl | ⟨h1, h2⟩
  · rfl
  · rw [nx1_calm h1, nx1_calm h2]
theorem Twin.nx2 {x y : In4} (h : Twin x y) (i : Nat) : nx2 x i = nx2 y i := by
  rcases h with rfl | ⟨h1, h2⟩
  · rfl
  · rw [nx2_calm h1, nx2_calm h2]
theorem Twin.rd {x y : In4} (h : Twin x y) (r : Int) : rdB x r = rdB y r := by
  rcases h with rfl | ⟨h1, h2⟩
  · rfl
  · rw [rd_calm h1, rd_calm h2]
theorem Twin.isWr {x y : In4} (h : Twin x y) : isWr x.op = isWr y.op := by
  rcases h with rfl | ⟨h1, h2⟩
  · rfl
  · rw [wr_calm h1, wr_calm h2]
theorem Twin.wr {x y : In4} (h : Twin x y) (r : Int) : wrB x r = wrB y r := by
  rcases h with rfl | ⟨h1, h2⟩
  · rfl
  · unfold wrB; rw [wr_calm h1, wr_calm h2, Bool.false_and, Bool.false_and]
theorem Twin.insC {hs : Nat → Bool} {ha : Nat → Nat} {K : Nat} {x y : In4} (h : Twin x y) : insC hs ha K x = insC hs ha K y := by
  rcases h with rfl | ⟨h1, h2⟩
  · rfl
  · rw [insC_calm h1, insC_calm h2]
/-- Two such programs. -/
structure Twins (L M : List In4) : Prop where
  len : L.length = M.length
  at_ : ∀ i, Twin (inAt L i) (inAt M i)
theorem twin_up {L M : List In4} (h : Twins L M) (r : Int) (i : Nat) (g : Nat → Bool) : upR L r i g = upR M r i g := by
  unfold upR laterB
  rw [(h.at_ i).rd r, (h.at_ i).wr r, (h.at_ i).nx1 i, (h.at_ i).nx2 i]
theorem twin_dn {L M : List In4} (h : Twins L M) (r : Int) : ∀ k g, dnR L r k g = dnR M r k g
  | 0, _ => rfl
  | k + 1, g => by show dnR L r k (upR L r k g) = dnR M r k (upR M r k g); rw [twin_up h, twin_dn h r k]
theorem twin_live {L M : List In4} (h : Twins L M) : liveB L = liveB M := by
  funext i r
  unfold liveB liveR
  rw [h.len, show dnR L r M.length = dnR M r M.length from funext (twin_dn h r M.length)]
theorem twin_hitR {L M : List In4} (h : Twins L M) : ∀ k, hitsR L k = hitsR M k
  | 0 => rfl
  | k + 1 => by unfold hitsR; rw [twin_live h, twin_hitR h k]
theorem twin_hitC {L M : List In4} (h : Twins L M) (R : Nat) : ∀ k, hitsC L R k = hitsC M R k
  | 0 => twin_hitR h R
  | k + 1 => by
    unfold hitsC
    rw [twin_hitC h R k, twin_live h, (h.at_ k).isWr]
    by_cases hw : isWr (inAt M k).op = true
    · rw [if_pos hw, if_pos hw]
      rcases h.at_ k with e | ⟨_, e⟩
      · rw [e]
      · rw [wr_calm e] at hw; cases hw
    · rw [if_neg hw, if_neg hw]
theorem twin_col {L M : List In4} (h : Twins L M) (R : Nat) : colB L R = colB M R := by
  unfold colB hitB; rw [h.len, twin_hitC h R]
theorem twin_homS {L M : List In4} (h : Twins L M) (R K : Nat) : homS L R K = homS M R K := by
  funext r; unfold homS keptB; rw [twin_col h R]
theorem twin_homA {L M : List In4} (h : Twins L M) (R K : Nat) : homA L R K = homA M R K := by
  funext r; unfold homA; rw [twin_homS h R K, twin_col h R]
theorem twin_wTo {L M : List In4} (h : Twins L M) (hs : Nat → Bool) (ha : Nat → Nat) (K : Nat) (s : Nat → Bool) (P : Nat) : ∀ i, wTo hs ha K s P L i = wTo hs ha K s P M i
  | 0 => rfl
  | i + 1 => by show wTo hs ha K s P L i ++ insC hs ha K (inAt L i) = wTo hs ha K s P M i ++ insC hs ha K (inAt M i); rw [twin_wTo h hs ha K s P i, (h.at_ i).insC]
/-- The code and the slots are the same. -/
theorem twin_cmp {L M : List In4} (h : Twins L M) (P R K : Nat) : cmpC P R K L = cmpC P R K M ∧ slotsB L P R K = slotsB M P R K := by
  refine ⟨?_, by unfold slotsB; rw [twin_homS h R K]⟩
  have hst : ∀ hs ha s i, stF hs ha K s P L i = stF hs ha K s P M i := fun hs ha s i => by
    funext j; unfold stF; rw [twin_wTo h hs ha K s P j]
  unfold cmpC codeB
  rw [twin_homS h R K, twin_homA h R K, twin_live h, h.len, twin_wTo h, hst]
end Go.Proofs.YtoepcplbpochpabDoor

/-
  Plain mathematics: a program with other Binds, Ties and Frees.
-/
namespace Go.Proofs.YtoepcplbpochpabDoor
open Go.RowKit

/-- The raw instruction that is taken at the place i. -/
def othY (oth : List In4) (i : Nat) : In4 := if oth.length = 0 then ⟨0, 0, 0, 0⟩ else inAt oth (i % oth.length)
/-- What stands at the place i instead. -/
def plX (oth : List In4) (R n V : Int) (i : Nat) (x : In4) : In4 := if 12 ≤ x.op ∧ x.op ≤ 14 then insF ⟨12 + pickI (othY oth i).op 3, (othY oth i).d, (othY oth i).a, (othY oth i).b⟩ R n V else x
def plTo (oth : List In4) (R n V : Int) (L : List In4) : Nat → List In4
  | 0 => []
  | k + 1 => plTo oth R n V L k ++ [plX oth R n V k (inAt L k)]
theorem plTo_len (oth : List In4) (R n V : Int) (L : List In4) : ∀ k, (plTo oth R n V L k).length = k
  | 0 => rfl
  | k + 1 => by show (plTo oth R n V L k ++ [_]).length = _; rw [List.length_append, plTo_len oth R n V L k]; rfl
theorem plTo_at (oth : List In4) (R n V : Int) (L : List In4) : ∀ k i, i < k → inAt (plTo oth R n V L k) i = plX oth R n V i (inAt L i)
  | 0, _, h => absurd h (Nat.not_lt_zero _)
  | k + 1, i, h => by
    have hl := plTo_len oth R n V L k
    show inAt (plTo oth R n V L k ++ [_]) i = _
    by_cases e : i < k
    · rw [inAt_left (by omega)]; exact plTo_at oth R n V L k i e
    · obtain rfl : i = k := by omega
      have := inAt_right (plTo oth R n V L i) [plX oth R n V i (inAt L i)] 0
      rw [hl, Nat.add_zero] at this
      exact this
theorem plX_op {oth : List In4} {R n V : Int} {i : Nat} {x : In4} (hV : 0 < V) (h : 12 ≤ x.op ∧ x.op ≤ 14) : (plX oth R n V i x).op = 12 + pickI (othY oth i).op 3 := by
  have := pick_lt (othY oth i).op 3 (by decide)
  unfold plX
  rw [if_pos h, insF_op]
  unfold opF
  rw [pick_self (c := 12 + pickI (othY oth i).op 3) (n := 15) (by omega) (by omega), if_neg (fun h => by omega)]
theorem plX_twin {oth : List In4} {R n V : Int} {i : Nat} {x : In4} (hV : 0 < V) : Twin x (plX oth R n V i x) := by
  by_cases h : 12 ≤ x.op ∧ x.op ≤ 14
  · have := pick_lt (othY oth i).op 3 (by decide)
    have e := plX_op (oth := oth) (R := R) (n := n) (i := i) hV h
    exact .inr ⟨h, by omega, by omega⟩
  · left; unfold plX; rw [if_neg h]
theorem plX_right {oth : List In4} {R n V V' : Int} {i : Nat} {x : In4} (hR : 0 < R) (hn : 0 < n) (hV' : 0 < V') (hx : Right R n V x) (hl : x.op ≤ 14) : Right R n V' (plX oth R n V' i x) ∧ (plX oth R n V' i x).op ≤ 14 := by
  by_cases h : 12 ≤ x.op ∧ x.op ≤ 14
  · have := pick_lt (othY oth i).op 3 (by decide)
    have e := plX_op (oth := oth) (R := R) (n := n) (i := i) hV' h
    refine ⟨?_, by omega⟩
    unfold plX; rw [if_pos h]; exact insF_right _ hR hn (by omega)
  · unfold plX
    rw [if_neg h]
    obtain ⟨o0, o16, rD, rA, rB, rC, rJ, rI, rS, rV, rL, rT⟩ := hx
    exact ⟨⟨o0, o16, rD, rA, rB, rC, rJ, rI, rS, fun k => absurd k h, fun k => by omega, fun k => by omega⟩, hl⟩
/-- It is right. -/
theorem plain_right {P R V V' : Int} {L : List In4} (hp : RightP P R V L) (oth : List In4) (h1 : 1 ≤ V') (h4 : V' ≤ 4) : RightP P R V' (plTo oth R L.length V' L L.length) := by
  have hl := plTo_len oth R L.length V' L L.length
  have r1 := hp.r1
  have n1 := hp.n1
  refine right_prog hp.r1 hp.r12 hp.p0 hp.p4 hp.pr (by omega) h4 (by rw [hl]; exact hp.n1) (by rw [hl]; exact hp.n40) (fun i hi => ?_) ?_
  · rw [hl] at hi ⊢
    rw [plTo_at _ _ _ _ _ _ _ hi]
    exact plX_right (by omega) (by omega) (by omega) (hp.ins i hi) (hp.low i hi)
  · rw [hl, plTo_at _ _ _ _ _ _ _ (by omega)]
    have := hp.last
    unfold plX
    rw [if_neg (by omega)]; exact hp.last
theorem inAt_far {L : List In4} {i : Nat} (h : L.length ≤ i) : inAt L i = ⟨0, 0, 0, 0⟩ := by
  unfold inAt; rw [List.getD_eq_getElem?_getD, List.getElem?_eq_none h]; rfl
theorem plain_twins (oth : List In4) (R n V : Int) (hV : 0 < V) (L : List In4) : Twins L (plTo oth R n V L L.length) := by
  have hl := plTo_len oth R n V L L.length
  refine ⟨hl.symm, fun i => ?_⟩
  by_cases h : i < L.length
  · rw [plTo_at _ _ _ _ _ _ _ h]; exact plX_twin hV
  · rw [inAt_far (L := L) (by omega), inAt_far (by omega)]; exact .inl rfl
end Go.Proofs.YtoepcplbpochpabDoor

/-
  Code that is the same: lodgekeep.sameCode.
-/
namespace Go.Proofs.YtoepcplbpochpabDoor
open Go.RowKit

set_option maxRecDepth 100000 in
set_option maxHeartbeats 1000000 in
theorem sameCode_any (L : List In4) (ao bo : Option Addr) (c1 c2 : Nat) (w : World) (hA : HeldIns w ao L) (hB : HeldIns w bo L) (hlen : L.length ≤ 9223372036854775807) :
    Calls Tryd.prog 18 #[.slice ao L.length c1, .slice bo L.length c2] w fun e w' => e = .returned (.bool true) ∧ Below w.heap.size w w' := by
  go_enter Tryd.func18, Tryd.ntmps18
  go_wp2
  go_loopw [5] (fun i wr => ∃ k : Nat, k ≤ L.length ∧ i = .int .i64 k ∧ Below w.heap.size w wr) (fun i _ => L.length - (intOf i).toNat)
  case atStart => exact ⟨0, Nat.zero_le _, rfl, Below.refl _ _⟩
  case round =>
    obtain ⟨k, hk, rfl, hbel⟩ := hrel
    by_cases hlt : k < L.length
    · obtain ⟨b, off, rfl, hb, hl⟩ : ∃ b off, ao = some ⟨b, off, none⟩ ∧ b < w.heap.size ∧ LieI w b off L := by
        rcases hA with h | h
        · subst h; exact absurd hlt (by simp)
        · exact h
      obtain ⟨b2, off2, rfl, hb2, hl2⟩ : ∃ b off, bo = some ⟨b, off, none⟩ ∧ b < w.heap.size ∧ LieI w b off L := by
        rcases hB with h | h
        · subst h; exact absurd hlt (by simp)
        · exact h
      obtain ⟨a0, a1, a2, a3⟩ := (hl k hlt).below hbel hb
      obtain ⟨d0, d1, d2, d3⟩ := (hl2 k hlt).below hbel hb2
      have i3 : (k : Int) < (L.length : Int) := by omega
      go_wp2_with fail
      go_quiet (fail)
      go_wp2
      go_roundw
      case rel => exact ⟨k + 1, by omega, by go_num, below_drewN hbel _⟩
      case measure => simp [intOf]; omega
    · go_wp2
      go_ret
      exact ⟨rfl, hbel⟩

end Go.Proofs.YtoepcplbpochpabDoor

/-
  The walk through lodgekeep.Plain.
-/
namespace Go.Proofs.YtoepcplbpochpabDoor
open Go.RowKit

/-- What stands in memory while the other program is written. -/
structure PlB (w3 wr : World) (P R V : Int) (C : List In4) (sv : Value) : Prop where
  q : wr.heap[w3.heap.size]? = some (.cells #[.int .i64 P, .int .i64 R, .int .i64 V, sv] 24 (0, 0))
  own : wr.ownsRow (w3.heap.size + 1) 31 4 sv C.length (insCells C)
  bel : Below w3.heap.size w3 wr
  size : w3.heap.size + 1 ≤ wr.heap.size
theorem PlB.below {w3 wr w' : World} {P R V : Int} {C : List In4} {sv : Value} (h : PlB w3 wr P R V C sv) (hb : Below wr.heap.size wr w') : PlB w3 w' P R V C sv := by
  have hs := h.size
  exact ⟨(hb.block _ (by omega)).trans h.q, own_keep h.own (Keep.of_below hb (fun _ => False)) (fun _ _ h => h), h.bel.trans (hb.mono (by omega)), by have := hb.size; omega⟩
theorem PlB.aside {w3 wr w' : World} {P R V : Int} {C : List In4} {sv : Value} (h : PlB w3 wr P R V C sv) {g : Nat} (hk : Keep (fun j => j = g) wr w') (hg : w3.heap.size + 1 ≤ g) (hs : ∀ k, sv.ownBlock = some k → k ≠ g) : PlB w3 w' P R V C sv := by
  have hz := h.size
  exact ⟨(hk.block _ (by omega) (by omega)).trans h.q, own_keep h.own hk hs, h.bel.trans (hk.below (by omega) (fun k hk e => by omega)), by have := hk.size; omega⟩
theorem pl_put {w3 wr wz w5 : World} {P R V : Int} {C : List In4} {sv v' : Value} {y : In4} (h : PlB w3 wr P R V C sv) (hz : Keep (fun _ => False) wr wz) (hg : wz.grownBy w5 sv.ownBlock)
    (hown : w5.ownsRow (w3.heap.size + 1) 31 4 v' (C.length + 1) (insCells C ++ [.int .i64 y.op, .int .i64 y.d, .int .i64 y.a, .int .i64 y.b])) : PlB w3 (w5.setCell ⟨w3.heap.size, 3, none⟩ v') P R V (C ++ [y]) v' := by
  have hs := h.size
  have hb : w5.heap[w3.heap.size]? = wr.heap[w3.heap.size]? := grown_block hz hg (fun e => by have := (own_in h.own _ e.symm).1; omega) (by omega)
  have hk3 : Keep (fun k => w3.heap.size + 1 ≤ k) wr w5 := (hz.mono (fun _ _ h => h.elim)).grown hg (fun k e _ => (own_in h.own k e).1)
  have hkB : Keep (fun k => k = w3.heap.size) w5 (w5.setCell ⟨w3.heap.size, 3, none⟩ v') := keep_set (Keep.refl _ _) _ _
  have hz3 := hk3.size
  refine ⟨?_, ?_, ?_, ?_⟩
  · exact (heap_setCell_same w5 w3.heap.size 3 _ 24 v' (hb.trans h.q)).trans rfl
  · rw [List.length_append, insCells_snoc]
    exact own_keep hown hkB (fun k hk e => by have := (own_in hown k hk).1; omega)
  · exact (h.bel.trans (hk3.below (by omega) (fun k hk e => by omega))).trans (hkB.below (by omega) (fun k hk e => by omega))
  · have := hkB.size; omega
theorem PlB.c2 {w3 wr : World} {P R V : Int} {C : List In4} {sv : Value} (h : PlB w3 wr P R V C sv) : wr.cell? ⟨w3.heap.size, 2, none⟩ = some (.int .i64 V) := (cell_of_row wr _ 2 _ 24 (0, 0) h.q).trans rfl
theorem PlB.c3 {w3 wr : World} {P R V : Int} {C : List In4} {sv : Value} (h : PlB w3 wr P R V C sv) : wr.cell? ⟨w3.heap.size, 3, none⟩ = some sv := (cell_of_row wr _ 3 _ 24 (0, 0) h.q).trans rfl

theorem Tryd.infoPl : (Tryd.prog.info? 31).map (fun i => (i.zero, i.size, i.bytes)) = some (some (.agg #[.int .i64 0, .int .i64 0, .int .i64 0, .int .i64 0]), 4, 32) := by kernel_rfl
theorem code_pos {P R V K : Nat} {L : List In4} (hp : RightP P R V L) : 0 < (cmpC P R K L).length := by
  rw [cmpC_len]
  have := st_lt (hs := homS L R K) (ha := homA L R K) (K := K) (s := liveB L 0) (P := P) hp.n1 hp.last (i := 0) (by have := hp.n1; omega)
  unfold cmpQ; omega
theorem pl_start (w3 : World) (P R V : Int) : PlB w3 (w3.alloc (.cells #[.int .i64 P, .int .i64 R, .int .i64 V, .slice none 0 0] 24)) P R V [] (.slice none 0 0) :=
  ⟨heap_alloc_new _ _, World.ownsRow_nil _ _ _ _, below_alloc _ _, by simp⟩
theorem PlB.drew {w3 wr : World} {P R V : Int} {C : List In4} {sv : Value} (h : PlB w3 wr P R V C sv) : PlB w3 wr.drew P R V C sv := ⟨h.q, h.own, h.bel.drew, h.size⟩

set_option maxRecDepth 100000 in
set_option maxHeartbeats 8000000 in
theorem plain_walk (P0 R0 V0 : Int) (L0 : List In4) (ac : Option Addr) (cc : Nat) (k : Int) (oth : List In4) (oa : Option Addr) (oc : Nat) (vars : Int) (w : World) (hH : HeldIns w ac L0) (hv : RngI L0) (hP0 : Rng P0) (hR0 : Rng R0) (hV0 : Rng V0) (hl : L0.length ≤ 9223372036854775807) (hcc : L0.length ≤ cc)
    (hO : HeldIns w oa oth) (hov : RngI oth) (hol : oth.length ≤ 9223372036854775807) (hk : Rng k) (hvr : Rng vars) (hT : Tab w) (hw0 : 0 < w.heap.size) :
    Calls Tryd.prog 4 #[.agg #[.int .i64 P0, .int .i64 R0, .int .i64 V0, .slice ac L0.length cc], .int .i64 k, .slice oa oth.length oc, .int .i64 vars] w fun e w' => e = .returned (.bool true) ∧ Below w.heap.size w w' := by
  have KP := hide (fun (c n : Int) (w : World) (h : Rng c) (hn : 0 < n) => pick_any c n w h.1 h.2 hn)
  obtain ⟨w1, hw1, HP1, HL1, hz1⟩ := box_prog w P0 R0 V0 (.slice ac L0.length cc)
  have HW := hide hw1
  have KR := hide (right_any P0 R0 V0 L0 ac cc 40 12 w1 (hH.below' (unhide HL1)) hv hP0 hR0 hV0 hl hcc (by omega) (by omega) (by omega) (by omega))
  have HT := hide hT
  have HO := hide hO
  have HOV := hide hov
  clear hw1 hH hT hO hov
  have bK := pick_lt k 15 (by decide)
  obtain ⟨K, hKe⟩ : ∃ K : Nat, (K : Int) = 2 + pickI k 15 := ⟨(2 + pickI k 15).toNat, by omega⟩
  have hK : 2 ≤ K := by omega
  have hK' : K ≤ 16 := by omega
  have HKE := hide hKe
  have bV := pick_lt vars 4 (by decide)
  obtain ⟨Y, hYe⟩ : ∃ Y : Nat, (Y : Int) = 1 + pickI vars 4 := ⟨(1 + pickI vars 4).toNat, by omega⟩
  have hY : 1 ≤ Y ∧ Y ≤ 4 := by omega
  have HYE := hide hYe
  clear hKe hYe
  go_enter Tryd.func4, Tryd.ntmps4
  go_upto_region 1 with fail
  rw [← unhide HW]
  have p0 := (unhide HP1).c0
  have p1 := (unhide HP1).c1
  have p2 := (unhide HP1).c2
  have p3 := (unhide HP1).c3
  go_wp2_with fail
  refine (unhide KR).mono ?_
  rintro _ w2 ⟨P, R, V, L, ao, cap, rfl, hp, hR12, hL40, hown, hb2⟩
  clear p0 p1 p2 p3 KR HP1 HW
  have hz2 := hb2.size
  obtain ⟨w3, hw3, HP3, HL3', hz3⟩ := box_prog w2 P R V (.slice ao L.length cap)
  have HL3 : Hid (Below w.heap.size w w3) := ((unhide HL1).trans (hb2.mono (by omega))).trans ((unhide HL3').mono (by omega))
  have HC3 : Hid (HeldIns w3 ao L) := (held_own hown).below' (unhide HL3')
  have HO3 := hide ((unhide HO).below' (unhide HL3))
  have HT3 := hide ((unhide HT).below (unhide HL3) hw0)
  have HW3 := hide hw3
  have hz3' : w2.heap.size < w3.heap.size := by omega
  clear hw3 hb2 hown HL1 HL3' HO HT hz3
  go_upto_region 2 with fail
  rw [← unhide HW3]
  go_wp2_with fail
  refine (unhide KP k 15 _ hk (by decide)).mono ?_
  rintro _ w4 ⟨rfl, hw4⟩
  rw [hw4]
  clear hw4
  go_upto_region 3 with fail
  rw [← unhide HKE]
  have q0 := (unhide HP3).c0
  have q1 := (unhide HP3).c1
  have wy : IntKind.i64.wrap (1 + pickI vars 4) = 1 + pickI vars 4 := by rw [IntKind.wrap_i64]; omega
  go_cut [10] from 24 to 31 (fun v wc => v = .pointer (some ⟨w3.heap.size, 0, none⟩) ∧ Hid (PlB w3 wc P R Y [] (.slice none 0 0)))
  case first =>
    go_region_held3 (fun w' => w'.cell? ⟨w2.heap.size, 0, none⟩ = some (.int .i64 (P : Int)) ∧ w'.cell? ⟨w2.heap.size, 1, none⟩ = some (.int .i64 (R : Int))) (first | go_keep | (simp [*]; done) | assumption)
      ((go_at_call 9; refine (unhide KP vars 4 _ hvr (by decide)).mono ?_; rintro e w5 ⟨rfl, hw5⟩; rw [hw5]; clear hw5))
    all_goals
      have HPL := hide (pl_start w3 P R (1 + pickI vars 4))
      rw [← unhide HYE] at HPL
      rw [← unhide HYE]
      clear q0 q1
      go_wp2_with fail
      go_meet
      first | exact ⟨rfl, unhide HPL⟩ | exact ⟨rfl, (unhide HPL).drew⟩ | exact ⟨rfl, (unhide HPL).drew.drew⟩
  case rest =>
  obtain ⟨rfl, HB0⟩ := hcut
  clear q0 q1 wy
  have hR1 := hp.r1
  have hn1 := hp.n1
  have KI := hide (fun (x : In4) (w : World) (h : Rng x.op ∧ Rng x.d ∧ Rng x.a ∧ Rng x.b) => ins_any x R L.length Y w (by omega) (by omega) (by omega) h.1 h.2.1 h.2.2.1 h.2.2.2)
  obtain ⟨i0, hi, hz0, hz1', hz2'⟩ := info_parts Tryd.infoPl
  have q3 : wc.cell? ⟨w2.heap.size, 3, none⟩ = some (.slice ao L.length cap) := ((unhide HB0).bel.cell (p := ⟨w2.heap.size, 3, none⟩) hz3').trans (unhide HP3).c3
  go_wp2_with fail
  go_loopw [11] (fun i' wr => ∃ j : Nat, j ≤ L.length ∧ i' = .int .i64 j ∧ ∃ sv, Hid (PlB w3 wr P R Y (plTo oth R L.length Y L j) sv)) (fun i' _ => L.length - (intOf i').toNat)
  case atStart => exact ⟨0, Nat.zero_le _, rfl, _, unhide HB0⟩
  case round =>
    clear HB0 q3
    obtain ⟨j, hj, rfl, sv, HB⟩ := hrel
    have q3 : wr.cell? ⟨w2.heap.size, 3, none⟩ = some (.slice ao L.length cap) := ((unhide HB).bel.cell (p := ⟨w2.heap.size, 3, none⟩) hz3').trans (unhide HP3).c3
    by_cases hlt : j < L.length
    case neg =>
      obtain rfl : j = L.length := by omega
      have hj0 : ¬ ((L.length : Int) < (L.length : Int)) := by omega
      obtain ⟨Q, hQ⟩ : ∃ Q, Q = plTo oth R L.length Y L L.length := ⟨_, rfl⟩
      have hpq : RightP P R Y Q := by rw [hQ]; exact plain_right hp oth (by omega) (by omega)
      have htw : Twins L Q := by rw [hQ]; exact plain_twins oth R L.length Y (by omega) L
      have hQl : Q.length = L.length := by rw [hQ]; exact plTo_len _ _ _ _ _ _
      obtain ⟨hCC, hSS⟩ := twin_cmp htw P R K
      rw [← hQ] at HB
      obtain ⟨so, sn, sc, rfl⟩ := own_slice (unhide HB).own
      obtain rfl : sn = Q.length := own_len (unhide HB).own
      have HCQ : Hid (HeldIns wr so Q) := held_own (unhide HB).own
      have HCL : Hid (HeldIns wr ao L) := (unhide HC3).below' (unhide HB).bel
      have HTr := hide ((unhide HT3).below (unhide HB).bel (by omega))
      have HPr : Hid (ProgB wr w2.heap.size P R V (.slice ao L.length cap)) := ((unhide HB).bel.block _ hz3').trans (unhide HP3)
      have HQr : Hid (ProgB wr w3.heap.size P R Y (.slice so Q.length sc)) := (unhide HB).q
      have hszr := (unhide HB).size
      have HLr : Hid (Below w.heap.size w wr) := (unhide HL3).trans ((unhide HB).bel.mono (unhide HL3).size)
      have hsome := code_pos (K := K) hp
      have hCl : (cmpC P R K L).length ≤ 1000 := by
        rw [cmpC_len]
        have := wTo_len (homS L R K) (homA L R K) K (liveB L 0) P L L.length
        have := hp.p4
        have := hp.n40
        unfold cmpQ; omega
      have KC1 := hide (fun w (hH : HeldIns w ao L) (hT : Tab w) (h0 : 0 < w.heap.size) => compile_right P R V K L ao cap w hH hT h0 (by rw [prog_zero hp]) hK hK')
      have KC2 := hide (fun w (hH : HeldIns w so Q) (hT : Tab w) (h0 : 0 < w.heap.size) => compile_right P R Y K Q so sc w hH hT h0 (by rw [prog_zero hpq]) hK hK')
      unfold CmpPost at KC1 KC2
      rw [← hCC, ← hSS] at KC2
      obtain ⟨S, hS⟩ : ∃ S, S = slotsB L P R K := ⟨_, rfl⟩
      obtain ⟨C, hC⟩ : ∃ C, C = cmpC P R K L := ⟨_, rfl⟩
      obtain ⟨T1, hT1⟩ : ∃ T, T = encT (cmpR P R V K L) := ⟨_, rfl⟩
      obtain ⟨T2, hT2⟩ : ∃ T, T = encT (cmpR P R Y K Q) := ⟨_, rfl⟩
      rw [← hS, ← hC, ← hT1] at KC1
      rw [← hS, ← hC, ← hT2] at KC2
      rw [← hC] at hsome hCl
      clear hS hC hT1 hT2 hCC hSS htw hpq hQ HB HC3 HT3 HO3 HOV KI hp HP3 HL3 q3 hQl
      have p0 := (unhide HPr).c0
      have p1 := (unhide HPr).c1
      have p2 := (unhide HPr).c2
      have p3 := (unhide HPr).c3
      go_wp2_with fail
      refine (unhide KC1 wr (unhide HCL) (unhide HTr) (by omega)).mono ?_
      rintro _ w10 ⟨uo, uc, rfl, hown10, hb10⟩
      obtain ⟨w11, hw11, HU11, HL11', hz11⟩ := box_unit w10 K S P V (.slice uo C.length uc) T1
      have HC11 : Hid (HeldIns w11 uo C) := (held_own hown10).below' (unhide HL11')
      have hb11 : Below wr.heap.size wr w11 := hb10.trans ((unhide HL11').mono hb10.size)
      have HCQ11 := hide ((unhide HCQ).below' hb11)
      have HT11 := hide ((unhide HTr).below hb11 (by omega))
      have HP11 := hide ((hb11.block w2.heap.size (by omega)).trans (unhide HPr))
      have HQ11 := hide ((hb11.block w3.heap.size (by omega)).trans (unhide HQr))
      have HL11 : Hid (Below w.heap.size w w11) := (unhide HLr).trans (hb11.mono (unhide HLr).size)
      have hsz11 := hb11.size
      have hu10 : w10.heap.size < w11.heap.size := by omega
      have HW11 := hide hw11
      clear hw11 hb10 hb11 hown10 HL11' hz11 p0 p1 p2 p3 HCQ HCL HTr HPr HQr HLr KC1
      go_upto_region 16 with fail
      rw [← unhide HW11]
      have p0 : w11.cell? ⟨w3.heap.size, 0, none⟩ = some (.int .i64 P) := (cell_of_row w11 _ 0 _ 24 (0, 0) (unhide HQ11)).trans rfl
      have p1 : w11.cell? ⟨w3.heap.size, 1, none⟩ = some (.int .i64 R) := (cell_of_row w11 _ 1 _ 24 (0, 0) (unhide HQ11)).trans rfl
      have p2 : w11.cell? ⟨w3.heap.size, 2, none⟩ = some (.int .i64 Y) := (cell_of_row w11 _ 2 _ 24 (0, 0) (unhide HQ11)).trans rfl
      have p3 : w11.cell? ⟨w3.heap.size, 3, none⟩ = some (.slice so Q.length sc) := (cell_of_row w11 _ 3 _ 24 (0, 0) (unhide HQ11)).trans rfl
      go_wp2_with fail
      refine (unhide KC2 w11 (unhide HCQ11) (unhide HT11) (by omega)).mono ?_
      rintro _ w12 ⟨vo, vc, rfl, hown12, hb12⟩
      obtain ⟨w13, hw13, HV13, HL13', hz13⟩ := box_unit w12 K S P Y (.slice vo C.length vc) T2
      have HD13 : Hid (HeldIns w13 vo C) := (held_own hown12).below' (unhide HL13')
      have hb13 : Below w11.heap.size w11 w13 := hb12.trans ((unhide HL13').mono hb12.size)
      have HC13 := hide ((unhide HC11).below' hb13)
      have HU13 := hide ((unhide HU11).below hb13 hu10)
      have HP13 := hide ((hb13.block w2.heap.size (by omega)).trans (unhide HP11))
      have HQ13 := hide ((hb13.block w3.heap.size (by omega)).trans (unhide HQ11))
      have HL13 : Hid (Below w.heap.size w w13) := (unhide HL11).trans (hb13.mono (unhide HL11).size)
      have hsz13 := hb13.size
      have hu12 : w12.heap.size < w13.heap.size := by omega
      have HW13 := hide hw13
      clear hw13 hb12 hb13 hown12 HL13' hz13 p0 p1 p2 p3 HCQ11 HC11 HT11 HP11 HQ11 HU11 HL11 KC2 HW11
      go_upto_region 17 with fail
      rw [← unhide HW13]
      have u4 := (unhide HU13).c4
      have v4 := (unhide HV13).c4
      go_wp2_with fail
      refine (sameCode_any C uo vo uc vc w13 (unhide HC13) (unhide HD13) (by omega)).mono ?_
      rintro _ w14 ⟨rfl, hb14⟩
      have HU14 := hide ((unhide HU13).below hb14 (by omega))
      have HV14 := hide ((unhide HV13).below hb14 hu12)
      have HP14 := hide ((hb14.block w2.heap.size (by omega)).trans (unhide HP13))
      have HQ14 := hide ((hb14.block w3.heap.size (by omega)).trans (unhide HQ13))
      have HL14 : Hid (Below w.heap.size w w14) := (unhide HL13).trans (hb14.mono (unhide HL13).size)
      clear hb14 u4 v4 HU13 HV13 HP13 HQ13 HL13 HW13
      have u1 := (unhide HU14).c1
      have u3 := (unhide HU14).c3
      have u4 := (unhide HU14).c4
      have v1 := (unhide HV14).c1
      have v3 := (unhide HV14).c3
      have p2 : w14.cell? ⟨w2.heap.size, 2, none⟩ = some (.int .i64 V) := (cell_of_row w14 _ 2 _ 24 (0, 0) (unhide HP14)).trans rfl
      have q2 : w14.cell? ⟨w3.heap.size, 2, none⟩ = some (.int .i64 Y) := (cell_of_row w14 _ 2 _ 24 (0, 0) (unhide HQ14)).trans rfl
      have hC0 : 0 < (C.length : Int) := by omega
      go_wp2_with fail
      go_returns
      exact ⟨rfl, unhide HL14⟩
    obtain ⟨b, off, rfl, hb, hI⟩ : ∃ b off, ao = some ⟨b, off, none⟩ ∧ b < w3.heap.size ∧ LieI w3 b off L := by
      rcases unhide HC3 with h | h
      · rw [h] at hlt; exact absurd hlt (Nat.not_lt_zero _)
      · exact h
    obtain ⟨c0, c1, c2, c3⟩ := (hI j hlt).below (unhide HB).bel hb
    have HPX : Hid (plTo oth R L.length Y L (j + 1) = plTo oth R L.length Y L j ++ [plX oth R L.length Y j (inAt L j)]) := rfl
    obtain ⟨x, hx⟩ : ∃ x, x = inAt L j := ⟨_, rfl⟩
    rw [← hx] at c0 c1 c2 c3 HPX
    obtain ⟨z, hz⟩ : ∃ z, z = plX oth R L.length Y j x := ⟨_, rfl⟩
    rw [← hz] at HPX
    obtain ⟨C, hC⟩ : ∃ C, C = plTo oth R L.length Y L j := ⟨_, rfl⟩
    have hCl : C.length = j := by rw [hC]; exact plTo_len _ _ _ _ _ _
    rw [← hC] at HB HPX
    have HZ := hide hz
    have j0 : (0 : Int) ≤ (j : Int) := by omega
    have j1 : (j : Int) < (L.length : Int) := by omega
    have hsz := (unhide HB).size
    obtain ⟨w5, hw5, hq5, HL5, hz5⟩ := box4 wr x
    have HX5 : Hid (w5.heap[wr.heap.size]? = some (.cells #[.int .i64 x.op, .int .i64 x.d, .int .i64 x.a, .int .i64 x.b] 31 (0, 0))) := by rw [hw5]; exact heap_alloc_new _ _
    have HW5 := hide hw5
    have HB5 := hide ((unhide HB).below (unhide HL5))
    have HQ5 := hide hq5
    clear hx hz hC hI hw5 hq5
    go_upto_region 8 with fail
    rw [← unhide HW5]
    clear c0 c1 c2 c3 q3 HW5
    obtain ⟨c0, c1, c2, c3⟩ := unhide HQ5
    obtain ⟨bt, hbt⟩ : ∃ bt : Bool, bt = decide (12 ≤ x.op ∧ x.op ≤ 14) := ⟨_, rfl⟩
    have HBT := hide hbt
    clear hbt
    go_cut [51] from 44 to 50 (fun v wd => v = .bool bt ∧ wd = w5)
    case first =>
      by_cases h12 : 12 ≤ x.op
      · by_cases h14 : x.op ≤ 14
        · have e : bt = true := by rw [unhide HBT]; exact decide_eq_true ⟨h12, h14⟩
          go_wp2_with fail
          go_meet
          case rel => exact ⟨by rw [e], rfl⟩
        · have e : bt = false := by rw [unhide HBT]; exact decide_eq_false (fun h => h14 h.2)
          go_wp2_with fail
          go_meet
          case rel => exact ⟨by rw [e], rfl⟩
      · have e : bt = false := by rw [unhide HBT]; exact decide_eq_false (fun h => h12 h.1)
        go_wp2_with fail
        go_meet
        case rel => exact ⟨by rw [e], rfl⟩
    case rest =>
    obtain ⟨rfl, hwd⟩ := hcut
    rw [hwd]
    clear hwd
    go_upto_if 51 with fail
    go_cut [13] from 51 to 76 (fun _ wd => Hid (At4 wd wr.heap.size 0 z) ∧ Hid (PlB w3 wd P R Y C sv) ∧ wr.heap.size < wd.heap.size)
    case first =>
      cases bt with
      | false =>
        have hop := of_decide_eq_false (unhide HBT).symm
        have hzx : z = x := by rw [unhide HZ]; unfold plX; rw [if_neg hop]
        clear hop
        go_wp2_with fail
        go_meet
        case rel => exact ⟨by rw [hzx]; exact unhide HQ5, unhide HB5, hz5⟩
      | true =>
        have hop := of_decide_eq_true (unhide HBT).symm
        have hzx : z = insF ⟨12 + pickI (othY oth j).op 3, (othY oth j).d, (othY oth j).a, (othY oth j).b⟩ R L.length Y := by rw [unhide HZ]; unfold plX; rw [if_pos hop]
        have HZX := hide hzx
        clear hop hzx HBT
        have hry : Rng (othY oth j).op ∧ Rng (othY oth j).d ∧ Rng (othY oth j).a ∧ Rng (othY oth j).b := by
          unfold othY
          by_cases e : oth.length = 0
          · rw [if_pos e]; exact ⟨⟨by decide, by decide⟩, ⟨by decide, by decide⟩, ⟨by decide, by decide⟩, ⟨by decide, by decide⟩⟩
          · rw [if_neg e]; exact unhide HOV _ (Nat.mod_lt _ (by omega))
        obtain ⟨y, hy⟩ : ∃ y, y = othY oth j := ⟨_, rfl⟩
        rw [← hy] at HZX hry
        have bp := pick_lt y.op 3 (by decide)
        have KI' := hide (fun w => unhide KI ⟨12 + pickI y.op 3, y.d, y.a, y.b⟩ w ⟨⟨by show -9223372036854775808 ≤ 12 + pickI y.op 3; omega, by show 12 + pickI y.op 3 ≤ 9223372036854775807; omega⟩, hry.2⟩)
        rw [← unhide HZX] at KI'
        have HY := hide hy
        have q1 : w5.cell? ⟨w2.heap.size, 1, none⟩ = some (.int .i64 R) := ((unhide HB5).bel.cell (p := ⟨w2.heap.size, 1, none⟩) hz3').trans (unhide HP3).c1
        have q3 : w5.cell? ⟨w2.heap.size, 3, none⟩ = some (.slice (some ⟨b, off, none⟩) L.length cap) := ((unhide HB5).bel.cell (p := ⟨w2.heap.size, 3, none⟩) hz3').trans (unhide HP3).c3
        have v2 := (unhide HB5).c2
        have wp3 : IntKind.i64.wrap (12 + pickI y.op 3) = 12 + pickI y.op 3 := by rw [IntKind.wrap_i64]; omega
        clear hy HZ HZX
        obtain ⟨w6, hw6⟩ : ∃ w6, w6 = w5.alloc (.cells #[.int .i64 0, .int .i64 0, .int .i64 0, .int .i64 0] 31) := ⟨_, rfl⟩
        have HL6 : Hid (Below w5.heap.size w5 w6) := by rw [hw6]; exact below_alloc _ _
        have HN6 : Hid (w6.heap[w5.heap.size]? = some (.cells #[.int .i64 0, .int .i64 0, .int .i64 0, .int .i64 0] 31 (0, 0))) := by rw [hw6]; exact heap_alloc_new _ _
        have HW6 := hide hw6
        clear hw6
        go_upto_if 55 with fail
        rw [← unhide HW6]
        go_cut [] from 53 to 62 (fun wd => Hid (wd.heap[w5.heap.size]? = some (.cells #[.int .i64 y.op, .int .i64 y.d, .int .i64 y.a, .int .i64 y.b] 31 (0, 0))) ∧ Hid (Below w5.heap.size w5 wd))
        case first =>
          by_cases e : oth.length = 0
          · have hyz : y = ⟨0, 0, 0, 0⟩ := by rw [unhide HY]; unfold othY; rw [if_pos e]
            have e1 : ¬ (0 < (oth.length : Int)) := by omega
            have HEE := hide e
            clear e
            go_wp2_with fail
            go_meet
            case rel => exact ⟨by rw [hyz]; exact unhide HN6, unhide HL6⟩
          · have hyz : y = inAt oth (j % oth.length) := by rw [unhide HY]; unfold othY; rw [if_neg e]
            have hmod : j % oth.length < oth.length := Nat.mod_lt _ (by omega)
            obtain ⟨b', off', rfl, hb', hI'⟩ : ∃ b off, oa = some ⟨b, off, none⟩ ∧ b < w3.heap.size ∧ LieI w3 b off oth := by
              rcases unhide HO3 with h | h
              · rw [h] at e; exact absurd rfl e
              · exact h
            have hb3 : w3.heap.size < w5.heap.size := by have := (unhide HB5).size; omega
            obtain ⟨d0, d1, d2, d3⟩ := ((hI' (j % oth.length) hmod).below (unhide HB5).bel hb').below (unhide HL6) (by omega)
            rw [← hyz] at d0 d1 d2 d3
            have hm : (j : Int).tmod (oth.length : Int) = ((j % oth.length : Nat) : Int) := by rw [Int.tmod_eq_emod_of_nonneg (by omega)]; rfl
            have hgt : 0 < (oth.length : Int) := by omega
            have hne : ((oth.length : Int) == 0) = false := by rw [beq_eq_false_iff_ne]; omega
            have i1 : (((j % oth.length : Nat) : Int)) < (oth.length : Int) := by omega
            obtain ⟨jm, hje⟩ : ∃ jm, jm = j % oth.length := ⟨_, rfl⟩
            rw [← hje] at d0 d1 d2 d3 hm i1
            have n0 : w6.cell? ⟨w5.heap.size, 0, none⟩ = some (.int .i64 0) := (cell_of_row w6 _ 0 _ 31 (0, 0) (unhide HN6)).trans rfl
            have n1 : w6.cell? ⟨w5.heap.size, 1, none⟩ = some (.int .i64 0) := (cell_of_row w6 _ 1 _ 31 (0, 0) (unhide HN6)).trans rfl
            have n2 : w6.cell? ⟨w5.heap.size, 2, none⟩ = some (.int .i64 0) := (cell_of_row w6 _ 2 _ 31 (0, 0) (unhide HN6)).trans rfl
            have n3 : w6.cell? ⟨w5.heap.size, 3, none⟩ = some (.int .i64 0) := (cell_of_row w6 _ 3 _ 31 (0, 0) (unhide HN6)).trans rfl
            have nf : ∀ o, w6.frozen? ⟨w5.heap.size, o, none⟩ = false := fun o => by have h := unhide HN6; simp [World.frozen?, h]
            have HEE := hide e
            clear e hI' hje hmod hyz HY
            go_wp2_with fail
            go_meet
            case rel => exact ⟨set4i (unhide HN6) _ _ _ _, ((((unhide HL6).setCell (p := ⟨w5.heap.size, 0, none⟩) (Nat.le_refl _) _).setCell (p := ⟨w5.heap.size, 1, none⟩) (Nat.le_refl _) _).setCell (p := ⟨w5.heap.size, 2, none⟩) (Nat.le_refl _) _).setCell (p := ⟨w5.heap.size, 3, none⟩) (Nat.le_refl _) _⟩
        case rest =>
        obtain ⟨HN7, HL7⟩ := hcut
        obtain ⟨w7, rfl⟩ : ∃ w7, w7 = wc := ⟨_, rfl⟩
        clear HN6 HL6 HW6 HY q1 q3 v2 c0 c1 c2 c3
        have n0 : w7.cell? ⟨w5.heap.size, 0, none⟩ = some (.int .i64 y.op) := (cell_of_row w7 _ 0 _ 31 (0, 0) (unhide HN7)).trans rfl
        have n1 : w7.cell? ⟨w5.heap.size, 1, none⟩ = some (.int .i64 y.d) := (cell_of_row w7 _ 1 _ 31 (0, 0) (unhide HN7)).trans rfl
        have n2 : w7.cell? ⟨w5.heap.size, 2, none⟩ = some (.int .i64 y.a) := (cell_of_row w7 _ 2 _ 31 (0, 0) (unhide HN7)).trans rfl
        have n3 : w7.cell? ⟨w5.heap.size, 3, none⟩ = some (.int .i64 y.b) := (cell_of_row w7 _ 3 _ 31 (0, 0) (unhide HN7)).trans rfl
        have nf : ∀ o, w7.frozen? ⟨w5.heap.size, o, none⟩ = false := fun o => by have h := unhide HN7; simp [World.frozen?, h]
        go_wp2_with fail
        refine (unhide KP y.op 3 _ hry.1 (by decide)).mono ?_
        rintro _ w8 ⟨rfl, hw8⟩
        rw [hw8]
        clear hw8
        go_upto_region 13 with fail
        obtain ⟨w8, hw8⟩ : ∃ w8, w8 = w7.setCell ⟨w5.heap.size, 0, none⟩ (.int .i64 (12 + pickI y.op 3)) := ⟨_, rfl⟩
        rw [← hw8]
        have HN8 : Hid (w8.heap[w5.heap.size]? = some (.cells #[.int .i64 (12 + pickI y.op 3), .int .i64 y.d, .int .i64 y.a, .int .i64 y.b] 31 (0, 0))) := by rw [hw8]; exact (heap_setCell_same w7 w5.heap.size 0 _ 31 _ (unhide HN7)).trans rfl
        have HL8 : Hid (Below w5.heap.size w5 w8) := by rw [hw8]; exact (unhide HL7).setCell (p := ⟨w5.heap.size, 0, none⟩) (Nat.le_refl _) _
        clear hw8 n0 n1 n2 n3 nf HN7 HL7
        have n0 : w8.cell? ⟨w5.heap.size, 0, none⟩ = some (.int .i64 (12 + pickI y.op 3)) := (cell_of_row w8 _ 0 _ 31 (0, 0) (unhide HN8)).trans rfl
        have n1 : w8.cell? ⟨w5.heap.size, 1, none⟩ = some (.int .i64 y.d) := (cell_of_row w8 _ 1 _ 31 (0, 0) (unhide HN8)).trans rfl
        have n2 : w8.cell? ⟨w5.heap.size, 2, none⟩ = some (.int .i64 y.a) := (cell_of_row w8 _ 2 _ 31 (0, 0) (unhide HN8)).trans rfl
        have n3 : w8.cell? ⟨w5.heap.size, 3, none⟩ = some (.int .i64 y.b) := (cell_of_row w8 _ 3 _ 31 (0, 0) (unhide HN8)).trans rfl
        have HB8 := hide ((unhide HB5).below (unhide HL8))
        have HX8 := hide (((unhide HL8).block wr.heap.size hz5).trans (unhide HX5))
        have q1 : w8.cell? ⟨w2.heap.size, 1, none⟩ = some (.int .i64 R) := ((unhide HB8).bel.cell (p := ⟨w2.heap.size, 1, none⟩) hz3').trans (unhide HP3).c1
        have q3 : w8.cell? ⟨w2.heap.size, 3, none⟩ = some (.slice (some ⟨b, off, none⟩) L.length cap) := ((unhide HB8).bel.cell (p := ⟨w2.heap.size, 3, none⟩) hz3').trans (unhide HP3).c3
        have v2 := (unhide HB8).c2
        have hz8 : wr.heap.size < w8.heap.size := Nat.lt_of_lt_of_le hz5 (unhide HL8).size
        go_wp2_with fail
        refine (unhide KI' w8).mono ?_
        rintro _ w9 ⟨rfl, hb9⟩
        have HX9 := hide ((hb9.block wr.heap.size hz8).trans (unhide HX8))
        have HB9 := hide ((unhide HB8).below hb9)
        have hz9 : wr.heap.size < w9.heap.size := Nat.lt_of_lt_of_le hz8 hb9.size
        clear hb9 n0 n1 n2 n3 q1 q3 v2
        have n0 : w9.cell? ⟨wr.heap.size, 0, none⟩ = some (.int .i64 x.op) := (cell_of_row w9 _ 0 _ 31 (0, 0) (unhide HX9)).trans rfl
        have n1 : w9.cell? ⟨wr.heap.size, 1, none⟩ = some (.int .i64 x.d) := (cell_of_row w9 _ 1 _ 31 (0, 0) (unhide HX9)).trans rfl
        have n2 : w9.cell? ⟨wr.heap.size, 2, none⟩ = some (.int .i64 x.a) := (cell_of_row w9 _ 2 _ 31 (0, 0) (unhide HX9)).trans rfl
        have n3 : w9.cell? ⟨wr.heap.size, 3, none⟩ = some (.int .i64 x.b) := (cell_of_row w9 _ 3 _ 31 (0, 0) (unhide HX9)).trans rfl
        have nf : ∀ o, w9.frozen? ⟨wr.heap.size, o, none⟩ = false := fun o => by have h := unhide HX9; simp [World.frozen?, h]
        go_wp2_with fail
        go_meet
        case rel =>
          have hrow := set4i (unhide HX9) (.int .i64 z.op) (.int .i64 z.d) (.int .i64 z.a) (.int .i64 z.b)
          have hk : Keep (fun j => j = wr.heap.size) w9 ((((w9.setCell ⟨wr.heap.size, 0, none⟩ (.int .i64 z.op)).setCell ⟨wr.heap.size, 1, none⟩ (.int .i64 z.d)).setCell ⟨wr.heap.size, 2, none⟩ (.int .i64 z.a)).setCell ⟨wr.heap.size, 3, none⟩ (.int .i64 z.b)) := keep_set (keep_set (keep_set (keep_set (Keep.refl _ _) _ _) _ _) _ _) _ _
          exact ⟨⟨(cell_of_row _ _ 0 _ 31 (0, 0) hrow).trans rfl, (cell_of_row _ _ 1 _ 31 (0, 0) hrow).trans rfl, (cell_of_row _ _ 2 _ 31 (0, 0) hrow).trans rfl, (cell_of_row _ _ 3 _ 31 (0, 0) hrow).trans rfl⟩, (unhide HB9).aside hk (by omega) (fun k hk => by have := (own_in (unhide HB).own k hk).2; omega), (Array.getElem?_eq_some_iff.1 hrow).1⟩
    case rest =>
    obtain ⟨HQ6, HB6, hz6⟩ := hcut
    obtain ⟨wa, rfl⟩ : ∃ wa, wa = wc := ⟨_, rfl⟩
    clear c0 c1 c2 c3 HB HB5 HX5 HQ5 HL5 hz5 HBT HZ
    obtain ⟨a0, a1, a2, a3⟩ := unhide HQ6
    have s3 := (unhide HB6).c3
    have hfz : ∀ o, wa.frozen? ⟨w3.heap.size, o, none⟩ = false := fun o => by have h := (unhide HB6).q; simp [World.frozen?, h]
    have hown := (unhide HB6).own
    have hsz6 := (unhide HB6).size
    go_wp2_with (at_builtin; refine wpList_append_own _ rfl _ _ 22 rfl (w3.heap.size + 1) 31 i0 (.agg #[.int .i64 0, .int .i64 0, .int .i64 0, .int .i64 0]) 4 32 Tryd.underlying22 hi hz0 hz1' hz2' rfl (by decide) _ _ _ rfl (hown.alloc _) ⟨wa.heap.size, 0, none⟩ 1 1 [.int .i64 z.op, .int .i64 z.d, .int .i64 z.a, .int .i64 z.b] rfl rfl (cells_new _ _ (by simp) 31 _) (by intro u hu; simp only [List.mem_cons, List.not_mem_nil, or_false] at hu; rcases hu with rfl | rfl | rfl | rfl <;> rfl) (by unfold maxLen; omega) (by omega) (by simp; omega) ?_)
    intro v' w9 hown' hgrow _
    obtain ⟨so', sn', sc', rfl⟩ := own_slice hown'
    have HR2 := hide (pl_put (y := z) (unhide HB6) ((Keep.refl _ _).alloc _) hgrow (by rw [hCl]; exact hown'))
    have HBL := hide (grown_block (a := wa) ((Keep.refl _ _).alloc _) hgrow (B := w3.heap.size) (fun e => by have := (own_in hown _ e.symm).1; omega) (by omega))
    have r3 : w9.cell? ⟨w3.heap.size, 3, none⟩ = some sv := (World.cell?_of_block (unhide HBL)).trans s3
    have rf : w9.frozen? ⟨w3.heap.size, 3, none⟩ = false := (World.frozen?_of_block (unhide HBL)).trans (hfz 3)
    clear hgrow hown' hown s3 hfz a0 a1 a2 a3 HBL
    go_wp2_with fail
    go_roundw
    case rel => exact ⟨j + 1, by omega, by go_num, _, by rw [unhide HPX]; exact unhide HR2⟩
    case measure => simp [intOf]; omega
end Go.Proofs.YtoepcplbpochpabDoor
