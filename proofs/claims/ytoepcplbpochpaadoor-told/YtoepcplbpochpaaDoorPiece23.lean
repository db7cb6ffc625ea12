/-
  Plain mathematics: right instructions and right programs out of raw ones.
-/
import Derived.Test.YtoepcplbpochpaaDoorPiece22
import Derived.Test.YtoepcplbpochpaaDoorPiece20
import Derived.Test.YtoepcplbpochpaaDoorPiece21
import Derived.Test.YtoepcplbpochpaaDoorPiece8
import Derived.Test.YtoepcplbpochpaaDoorPiece5
import Derived.Laws.CopyOwn

namespace Go.Proofs.YtoepcplbpochpaaDoor
open Go.RowKit

theorem field_v {m r k v s : Int} (h : 0 ≤ m ∧ m < v) : fieldE 118 m r k v s = 0 := by unfold fieldE; rw [if_neg (by decide), if_neg (by decide), if_neg (by decide), if_neg (by decide), if_pos rfl, if_neg (by omega)]
theorem insP_zero {x : In4} {R n V : Int} (h : Right R n V x) (hl : x.op ≤ 14) : insE true x R n V 0 = 0 := by
  obtain ⟨o0, o16, rD, rA, rB, rC, rJ, rI, rS, rV, rL, rT⟩ := h
  have key : ∀ (o : Nat), x.op = (o : Int) → o < 17 → opB true o = true → fieldE (letterAt o 0) x.d R n V 0 = 0 → fieldE (letterAt o 1) x.a R n V 0 = 0 → fieldE (letterAt o 2) x.b R n V 0 = 0 → insE true x R n V 0 = 0 := fun o h1 h2 h3 h4 h5 h6 => by
    rw [insE_good h1 h2 h3, if_neg (fun k => k h4), if_neg (fun k => k h5)]; exact h6
  rcases (show x.op = 0 ∨ x.op = 1 ∨ x.op = 2 ∨ x.op = 3 ∨ x.op = 4 ∨ x.op = 5 ∨ x.op = 6 ∨ x.op = 7 ∨ x.op = 8 ∨ x.op = 9 ∨ x.op = 10 ∨ x.op = 11 ∨ x.op = 12 ∨ x.op = 13 ∨ x.op = 14 by omega) with e | e | e | e | e | e | e | e | e | e | e | e | e | e | e
  · exact key 0 e (by decide) rfl (field_r (rD (.inl e))) (field_c (rC (.inl e))) (field_n _ _ _ _ _)
  · exact key 1 e (by decide) rfl (field_r (rD (.inr (.inl e)))) (field_r (rA (.inl e))) (field_n _ _ _ _ _)
  · exact key 2 e (by decide) rfl (field_r (rD (.inr (.inr (by omega))))) (field_r (rA (.inr (.inl (by omega))))) (field_r (rB (by omega)))
  · exact key 3 e (by decide) rfl (field_r (rD (.inr (.inr (by omega))))) (field_r (rA (.inr (.inl (by omega))))) (field_r (rB (by omega)))
  · exact key 4 e (by decide) rfl (field_r (rD (.inr (.inr (by omega))))) (field_r (rA (.inr (.inl (by omega))))) (field_r (rB (by omega)))
  · exact key 5 e (by decide) rfl (field_r (rD (.inr (.inr (by omega))))) (field_r (rA (.inr (.inl (by omega))))) (field_r (rB (by omega)))
  · exact key 6 e (by decide) rfl (field_r (rD (.inr (.inr (by omega))))) (field_r (rA (.inr (.inl (by omega))))) (field_r (rB (by omega)))
  · exact key 7 e (by decide) rfl (field_n _ _ _ _ _) (field_t (rJ e)) (field_n _ _ _ _ _)
  · exact key 8 e (by decide) rfl (field_n _ _ _ _ _) (field_r (rA (.inr (.inr (.inl e))))) (field_t (rI e))
  · exact key 9 e (by decide) rfl (field_n _ _ _ _ _) (field_r (rA (.inr (.inr (.inr (.inl e)))))) (field_n _ _ _ _ _)
  · exact key 10 e (by decide) rfl (field_n _ _ _ _ _) (field_r (rA (.inr (.inr (.inr (.inr (.inl e))))))) (field_n _ _ _ _ _)
  · exact key 11 e (by decide) rfl (field_n _ _ _ _ _) (field_s (rS e)) (field_n _ _ _ _ _)
  · exact key 12 e (by decide) rfl (field_v (rV (by omega))) (field_r (rA (.inr (.inr (.inr (.inr (.inr e))))))) (field_n _ _ _ _ _)
  · exact key 13 e (by decide) rfl (field_v (rV (by omega))) (field_c (rC (.inr e))) (field_n _ _ _ _ _)
  · exact key 14 e (by decide) rfl (field_v (rV (by omega))) (field_n _ _ _ _ _) (field_n _ _ _ _ _)
/-- A program that keeps to the rules is right. -/
theorem prog_zero {P R V : Int} {L : List In4} (hp : RightP P R V L) : progE P R V L = (0, 0) := by
  have h1 := hp.r1; have h2 := hp.r12; have h3 := hp.p0; have h4 := hp.p4; have h5 := hp.pr; have h6 := hp.v0; have h7 := hp.v4; have h8 := hp.n1; have h9 := hp.n40
  rw [progE_good (by unfold SizeBad; omega)]
  exact codedFrom_zero (fun i hi => insP_zero (hp.ins i hi) (hp.low i hi)) hp.last _ _ (Nat.zero_add _)

theorem op_le (x : In4) (V : Int) : 0 ≤ opF x V ∧ opF x V ≤ 14 := by
  have := pick_lt x.op 15 (by decide)
  unfold opF; split <;> omega
theorem op_var {x : In4} {V : Int} (hV : 0 ≤ V) (h : 12 ≤ opF x V) : 0 < V := by
  unfold opF at h
  by_cases e : V = 0
  · by_cases g : 12 ≤ pickI x.op 15
    · rw [if_pos ⟨e, g⟩] at h; omega
    · rw [if_neg (fun k => g k.2)] at h; omega
  · omega
theorem insF_op (x : In4) (R n V : Int) : (insF x R n V).op = opF x V := by
  unfold insF
  split
  · rename_i h; exact h.symm
  split
  · rename_i h; exact h.symm
  split
  · rename_i h; exact h.symm
  split
  · rename_i h; exact h.symm
  split
  · rfl
  split
  · rename_i h; exact h.symm
  split
  · rename_i h; exact h.symm
  split
  · rename_i h; exact h.symm
  split
  · rename_i h; exact h.symm
  · rfl
theorem insF_right (x : In4) {R n V : Int} (hR : 0 < R) (hn : 0 < n) (hV : 0 ≤ V) : Right R n V (insF x R n V) := by
  have ho := op_le x V
  have hv : 12 ≤ opF x V → 0 < V := op_var hV
  have dR := pick_lt x.d R hR
  have aR := pick_lt x.a R hR
  have bR := pick_lt x.b R hR
  have aC := pick_lt x.a 65536 (by decide)
  have an := pick_lt x.a n hn
  have bn := pick_lt x.b n hn
  have aS := pick_lt x.a 100 (by decide)
  have dV : 12 ≤ opF x V → 0 ≤ pickI x.d V ∧ pickI x.d V < V := fun h => pick_lt x.d V (hv h)
  have hop := insF_op x R n V
  unfold Right
  rw [hop]
  clear hop
  unfold insF
  generalize opF x V = o at *
  refine ⟨ho.1, by omega, ?_, ?_, ?_, ?_, ?_, ?_, ?_, ?_, fun h => by omega, fun h => by omega⟩
  · intro h
    rcases h with rfl | rfl | h
    · exact dR
    · exact dR
    · rw [if_neg (by omega), if_neg (by omega), if_neg (by omega), if_neg (by omega), if_neg (by omega), if_neg (by omega), if_neg (by omega), if_neg (by omega), if_neg (by omega)]; exact dR
  · intro h
    rcases h with rfl | h | rfl | rfl | rfl | rfl
    · exact aR
    · rw [if_neg (by omega), if_neg (by omega), if_neg (by omega), if_neg (by omega), if_neg (by omega), if_neg (by omega), if_neg (by omega), if_neg (by omega), if_neg (by omega)]; exact aR
    · exact aR
    · exact aR
    · exact aR
    · exact aR
  · intro h
    rw [if_neg (by omega), if_neg (by omega), if_neg (by omega), if_neg (by omega), if_neg (by omega), if_neg (by omega), if_neg (by omega), if_neg (by omega), if_neg (by omega)]; exact bR
  · intro h
    rcases h with rfl | rfl
    · show 0 ≤ pickI x.a 65536 ∧ pickI x.a 65536 ≤ 65535; omega
    · show 0 ≤ pickI x.a 65536 ∧ pickI x.a 65536 ≤ 65535; omega
  · rintro rfl; exact an
  · rintro rfl; exact bn
  · rintro rfl; show 0 ≤ pickI x.a 100 ∧ pickI x.a 100 ≤ 99; omega
  · intro h
    rcases (show o = 12 ∨ o = 13 ∨ o = 14 by omega) with rfl | rfl | rfl
    · exact dV (by omega)
    · exact dV (by omega)
    · exact dV (by omega)
theorem insF_zero (x : In4) {R n V : Int} (hR : 0 < R) (hn : 0 < n) (hV : 0 ≤ V) : insE true (insF x R n V) R n V 0 = 0 := insP_zero (insF_right x hR hn hV) (by rw [insF_op]; exact (op_le x V).2)
theorem opF_end {x : In4} {V : Int} (h : pickI x.op 15 = 7 ∨ pickI x.op 15 = 10) : opF x V = 7 ∨ opF x V = 10 := by
  unfold opF; rw [if_neg (by omega)]; exact h
/-- A list of right instructions that ends as it must is a right program. -/
theorem right_prog {P R V : Int} {L : List In4} (h1 : 1 ≤ R) (h2 : R ≤ 12) (h3 : 0 ≤ P) (h4 : P ≤ 4) (h5 : P ≤ R) (h6 : 0 ≤ V) (h7 : V ≤ 4) (h8 : 1 ≤ L.length) (h9 : L.length ≤ 40)
    (hi : ∀ i, i < L.length → Right R L.length V (inAt L i) ∧ (inAt L i).op ≤ 14) (hl : (inAt L (L.length - 1)).op = 7 ∨ (inAt L (L.length - 1)).op = 10) : RightP P R V L :=
  ⟨h1, h2, h3, h4, h5, h6, h7, h8, h9, fun i h => (hi i h).1, hl, fun i h => (hi i h).2⟩
/-- The code of a program out of raw code that ends as it must. -/
theorem raw_ends {P R V : Int} {l : List In4} (h1 : 1 ≤ R) (h2 : R ≤ 12) (h3 : 0 ≤ P) (h4 : P ≤ 4) (h5 : P ≤ R) (h6 : 0 ≤ V) (h7 : V ≤ 4) (h8 : 1 ≤ l.length) (h9 : l.length ≤ 40) (he : pickI (inAt l (l.length - 1)).op 15 = 7 ∨ pickI (inAt l (l.length - 1)).op 15 = 10) :
    RightP P R V (l.map fun x => insF x R l.length V) := by
  have hlen : (l.map fun x => insF x R l.length V).length = l.length := List.length_map _
  refine right_prog h1 h2 h3 h4 h5 h6 h7 (by omega) (by omega) (fun i hi => ?_) ?_
  · rw [hlen] at hi ⊢
    rw [inAt_map _ hi]
    exact ⟨insF_right _ (by omega) (by omega) h6, by rw [insF_op]; exact (op_le _ V).2⟩
  · rw [hlen, inAt_map _ (by omega), insF_op]; exact opF_end he
/-- The code of a program out of raw code that does not: a Return behind it. -/
theorem raw_more {P R V : Int} {l : List In4} (h1 : 1 ≤ R) (h2 : R ≤ 12) (h3 : 0 ≤ P) (h4 : P ≤ 4) (h5 : P ≤ R) (h6 : 0 ≤ V) (h7 : V ≤ 4) (h9 : l.length + 1 ≤ 40) :
    RightP P R V ((l.map fun x => insF x R (l.length + 1 : Nat) V) ++ [⟨10, 0, 0, 0⟩]) := by
  have hlen : ((l.map fun x => insF x R (l.length + 1 : Nat) V) ++ [(⟨10, 0, 0, 0⟩ : In4)]).length = l.length + 1 := by rw [List.length_append, List.length_map]; rfl
  refine right_prog h1 h2 h3 h4 h5 h6 h7 (by omega) (by omega) (fun i hi => ?_) (by rw [inAt_last]; exact .inr rfl)
  rw [hlen] at hi ⊢
  by_cases e : i < l.length
  · have hA : inAt ((l.map fun x => insF x R (l.length + 1 : Nat) V) ++ [(⟨10, 0, 0, 0⟩ : In4)]) i = insF (inAt l i) R (l.length + 1 : Nat) V := by
      unfold inAt
      rw [List.getD_eq_getElem?_getD, List.getElem?_append_left (by rw [List.length_map]; exact e), ← List.getD_eq_getElem?_getD]
      exact inAt_map (fun x => insF x R (l.length + 1 : Nat) V) e
    rw [hA]
    exact ⟨insF_right _ (by omega) (by omega) h6, by rw [insF_op]; exact (op_le _ V).2⟩
  · obtain rfl : i = l.length := by omega
    have hA : inAt ((l.map fun x => insF x R (l.length + 1 : Nat) V) ++ [(⟨10, 0, 0, 0⟩ : In4)]) l.length = ⟨10, 0, 0, 0⟩ := by
      have := inAt_last (l.map fun x => insF x R (l.length + 1 : Nat) V) ⟨10, 0, 0, 0⟩
      rw [hlen, Nat.add_sub_cancel] at this
      exact this
    rw [hA]
    refine ⟨⟨by decide, by decide, fun h => ?_, fun _ => ⟨by decide, ?_⟩, fun h => ?_, fun h => ?_, fun h => ?_, fun h => ?_, fun h => ?_, fun h => ?_, fun h => ?_, fun h => ?_⟩, by decide⟩
    · exact absurd h (by decide)
    · show (0 : Int) < R; omega
    all_goals exact absurd h (by decide)
end Go.Proofs.YtoepcplbpochpaaDoor

/-
  The unit of a right program, checked, and run without fuel: lodgekeep.ready.
-/
namespace Go.Proofs.YtoepcplbpochpaaDoor
open Go.RowKit

/-- Args that are right. -/
structure ArgsOk (xs : List Int) (P : Nat) : Prop where
  len : xs.length = P
  val : ∀ i, 0 ≤ nth xs i ∧ nth xs i ≤ 65535
theorem start_zero {xs : List Int} {P : Nat} (h : ArgsOk xs P) {f : Int} (h0 : 0 ≤ f) (h1 : f ≤ 100000) : startE xs P f = 0 := by
  unfold startE
  have hf : fitsB xs P = true := by
    unfold fitsB valuesTo
    rw [Bool.and_eq_true, List.all_eq_true, beq_iff_eq]
    refine ⟨fun i _ => ?_, by rw [h.len]⟩
    unfold valueB
    rw [decide_eq_true_iff]
    exact h.val i
  rw [if_neg (by rw [hf]; decide), if_neg (by omega)]
/-- What a run of the program comes to. -/
theorem runE_ok {P R V : Nat} {L : List In4} (hp : RightP P R V L) {xs : List Int} (h : ArgsOk xs P) {f : Nat} (hf : f ≤ 100000) : runE P R V L xs f = (0, runSt L f (st0 xs)) := by
  unfold runE
  rw [prog_zero hp, if_neg (fun h => h rfl), start_zero h (by omega) (by omega), if_neg (fun h => h rfl), Int.toNat_natCast]
/-- What a run of its unit comes to. -/
theorem runU_ok {P R V K : Nat} {L : List In4} (hp : RightP P R V L) (hK : 2 ≤ K) (hK' : K ≤ 16) {xs : List Int} (h : ArgsOk xs P) {f : Nat} (hf : f ≤ 100000) :
    runU K (slotsB L P R K) P V (cmpC P R K L) (encT (cmpR P R V K L)) (tabOf (encT (cmpR P R V K L))) xs f = (0, runSt (cmpC P R K L) f (stU (cmpR P R V K L) none xs)) := by
  obtain ⟨h1, h2⟩ := unit_ok hp hK hK'
  unfold runU
  rw [h1, if_neg (fun h => h rfl), start_zero h (by omega) (by omega), if_neg (fun h => h rfl), Int.toNat_natCast, tabOf_eq h2]
theorem own_heldC {w : World} {base : Nat} {v : Value} {L : List In4} (h : w.ownsRow base 77 4 v L.length (insCells L)) : ∃ ao cap, v = .slice ao L.length cap ∧ HeldIns w ao L ∧ L.length ≤ cap := by
  rcases h.2 with ⟨rfl, h0⟩ | ⟨g, cap, cur, rfl, h2, h3, h4, h5, h6, h7⟩
  · have : L = [] := List.length_eq_zero_iff.1 h0
    subst this
    exact ⟨none, 0, rfl, .inl rfl, Nat.le_refl _⟩
  · exact ⟨some ⟨g, 0, none⟩, cap, rfl, .inr ⟨g, 0, rfl, (Array.getElem?_eq_some_iff.1 h3).1, fun i hi => by rw [Nat.zero_add]; exact own_ins h rfl hi⟩, h4⟩
theorem bytes_len : ∀ l : List Int, (bytesOf l).length ≤ 3 * l.length
  | [] => Nat.le_refl _
  | x :: l => by
    have h1 := encB_le x
    have h2 := bytes_len l
    show (encB x ++ bytesOf l).length ≤ 3 * (l.length + 1)
    rw [List.length_append]; omega
theorem nums_len5 : ∀ R : List Rg, (R.flatMap nums).length = 5 * R.length
  | [] => rfl
  | r :: R => by rw [List.flatMap_cons, List.length_append, nums_len5 R]; show 5 + 5 * R.length = 5 * (R.length + 1); omega
theorem tab_size {s : ByteArray} {R : List Rg} (h : TabS s R) : s.size ≤ 3003 := by
  have h1 := bytes_len (flat R)
  have h2 := isTab_len h.1
  have h3 : (flat R).length = 5 * R.length + 1 := by unfold flat; rw [List.length_cons, nums_len5]
  have h4 : s.size = (bytesOf (flat R)).length := by rw [h.2]; rfl
  omega
theorem held_own {w : World} {base : Nat} {ao : Option Addr} {cap : Nat} {L : List In4} (h : w.ownsRow base 77 4 (.slice ao L.length cap) L.length (insCells L)) : HeldIns w ao L := by
  obtain ⟨ao', cap', e, hh, _⟩ := own_heldC h
  injection e with e1
  rw [e1]; exact hh
/-- The unit's value. -/
def unitV (P R V K : Nat) (L : List In4) (ao : Option Addr) (cap : Nat) : Value := .agg #[.int .i64 K, .int .i64 (slotsB L P R K), .int .i64 P, .int .i64 V, .slice ao (cmpC P R K L).length cap, .string (encT (cmpR P R V K L))]
theorem drew_block (w : World) (k : Nat) : w.drew.heap[k]? = w.heap[k]? := rfl
/-- What ready leaves behind. -/
def ReadyPost (w : World) (P R V K : Nat) (L : List In4) (e : Ending) (w' : World) : Prop :=
  ∃ ao cap, e = .returned (.tuple #[unitV P R V K L ao cap, .bool true]) ∧ HeldIns w' ao (cmpC P R K L) ∧ w'.ownsRow w.heap.size 77 4 (.slice ao (cmpC P R K L).length cap) (cmpC P R K L).length (insCells (cmpC P R K L)) ∧ Below w.heap.size w w'
/-- A unit's block. -/
def UnB (w : World) (N : Nat) (K S P V : Int) (sl : Value) (T : ByteArray) : Prop := w.heap[N]? = some (.cells #[.int .i64 K, .int .i64 S, .int .i64 P, .int .i64 V, sl, .string T] 26 (0, 0))
theorem UnB.c0 {w : World} {N : Nat} {K S P V : Int} {sl : Value} {T : ByteArray} (h : UnB w N K S P V sl T) : w.cell? ⟨N, 0, none⟩ = some (.int .i64 K) := (cell_of_row w N 0 _ 26 (0, 0) h).trans rfl
theorem UnB.c1 {w : World} {N : Nat} {K S P V : Int} {sl : Value} {T : ByteArray} (h : UnB w N K S P V sl T) : w.cell? ⟨N, 1, none⟩ = some (.int .i64 S) := (cell_of_row w N 1 _ 26 (0, 0) h).trans rfl
theorem UnB.c2 {w : World} {N : Nat} {K S P V : Int} {sl : Value} {T : ByteArray} (h : UnB w N K S P V sl T) : w.cell? ⟨N, 2, none⟩ = some (.int .i64 P) := (cell_of_row w N 2 _ 26 (0, 0) h).trans rfl
theorem UnB.c3 {w : World} {N : Nat} {K S P V : Int} {sl : Value} {T : ByteArray} (h : UnB w N K S P V sl T) : w.cell? ⟨N, 3, none⟩ = some (.int .i64 V) := (cell_of_row w N 3 _ 26 (0, 0) h).trans rfl
theorem UnB.c4 {w : World} {N : Nat} {K S P V : Int} {sl : Value} {T : ByteArray} (h : UnB w N K S P V sl T) : w.cell? ⟨N, 4, none⟩ = some sl := (cell_of_row w N 4 _ 26 (0, 0) h).trans rfl
theorem UnB.c5 {w : World} {N : Nat} {K S P V : Int} {sl : Value} {T : ByteArray} (h : UnB w N K S P V sl T) : w.cell? ⟨N, 5, none⟩ = some (.string T) := (cell_of_row w N 5 _ 26 (0, 0) h).trans rfl
theorem UnB.below {w w' : World} {N B : Nat} {K S P V : Int} {sl : Value} {T : ByteArray} (h : UnB w N K S P V sl T) (hb : Below B w w') (hB : N < B) : UnB w' N K S P V sl T := (hb.block N hB).trans h
theorem HeldIns.below' {w w' : World} {ao : Option Addr} {L : List In4} (h : HeldIns w ao L) (hb : Below w.heap.size w w') : HeldIns w' ao L := by
  rcases h with h | ⟨b, off, e, hB, hL⟩
  · exact .inl h
  · exact .inr ⟨b, off, e, Nat.lt_of_lt_of_le hB hb.size, hL.below hb hB⟩

set_option maxRecDepth 100000 in
set_option maxHeartbeats 8000000 in
theorem ready_any (P R V K : Nat) (L : List In4) (ac aa : Option Addr) (cc ca : Nat) (xs : List Int) (w : World) (hp : RightP P R V L) (hK : 2 ≤ K) (hK' : K ≤ 16) (hx : ArgsOk xs P) (hH : HeldIns w ac L) (hA : HeldI w aa xs) (hT : Tab w) (hw0 : 0 < w.heap.size) :
    Calls Tryd.prog 38 #[.agg #[.int .i64 P, .int .i64 R, .int .i64 V, .slice ac L.length cc], .int .i64 K, .slice aa xs.length ca] w (ReadyPost w P R V K L) := by
  have hp4 := hp.p4
  have hn40 := hp.n40
  have hxl := hx.len
  have hE := prog_zero hp
  have hU := unit_ok hp hK hK'
  have hR0 := runE_ok hp hx (f := 0) (by omega)
  have hU0 := runU_ok hp hK hK' hx (f := 0) (by omega)
  have hTs : (encT (cmpR P R V K L)).size ≤ maxLen := Nat.le_trans (tab_size hU.2) (by unfold maxLen; omega)
  have hCl : (cmpC P R K L).length ≤ 9223372036854775807 := by
    rw [cmpC_len]
    have := wTo_len (homS L R K) (homA L R K) K (liveB L 0) P L L.length
    unfold cmpQ; omega
  have KC := hide (fun w (hH : HeldIns w ac L) (hT : Tab w) (hw0 : 0 < w.heap.size) => compile_right P R V K L ac cc w hH hT hw0 (by rw [hE]) hK hK')
  have KI := hide (fun w (hH : HeldIns w ac L) (hT : Tab w) (hw0 : 0 < w.heap.size) => irCheck_any P R V L ac cc w hH (by omega) hT hw0)
  have KM := hide (fun (uo : Option Addr) (uc : Nat) w (hH : HeldIns w uo (cmpC P R K L)) (hT : Tab w) (hw0 : 0 < w.heap.size) => machCheck_any K (slotsB L P R K) P V (cmpC P R K L) (encT (cmpR P R V K L)) uo uc w hH hCl hTs hT hw0)
  have KR := hide (fun w (hH : HeldIns w ac L) (hA : HeldI w aa xs) (hT : Tab w) (hw0 : 0 < w.heap.size) => run_any P R V L ac aa cc ca xs 0 w hH hA hT hw0 (by omega) (by omega))
  have KN := hide (fun (uo : Option Addr) (uc : Nat) w (hH : HeldIns w uo (cmpC P R K L)) (hA : HeldI w aa xs) (hT : Tab w) (hw0 : 0 < w.heap.size) => machRun_any K (slotsB L P R K) P V (cmpC P R K L) (encT (cmpR P R V K L)) uo aa uc ca xs 0 w hH hA hT hw0 hCl (by omega) hTs)
  rw [hE] at KI
  rw [hU.1] at KM
  have hR0' : runE P R V L xs 0 = (0, st0 xs) := hR0
  have hU0' : runU K (slotsB L P R K) P V (cmpC P R K L) (encT (cmpR P R V K L)) (tabOf (encT (cmpR P R V K L))) xs 0 = (0, stU (cmpR P R V K L) none xs) := hU0
  rw [hR0'] at KR
  rw [hU0'] at KN
  clear hE hU hR0 hU0 hR0' hU0'
  unfold ReadyPost unitV
  unfold CmpPost at KC
  obtain ⟨T, hTe⟩ : ∃ T, T = encT (cmpR P R V K L) := ⟨_, rfl⟩
  obtain ⟨S, hSe⟩ : ∃ S, S = slotsB L P R K := ⟨_, rfl⟩
  obtain ⟨C, hCe⟩ : ∃ C, C = cmpC P R K L := ⟨_, rfl⟩
  obtain ⟨su, hsu⟩ : ∃ su, su = stU (cmpR P R V K L) none xs := ⟨_, rfl⟩
  rw [← hTe, ← hSe, ← hCe] at KC KM KN
  rw [← hTe, ← hSe, ← hCe]
  rw [← hsu] at KN
  have hs0 : su.kind = 2 ∧ su.val = 0 ∧ su.steps = 0 ∧ su.outs = [] ∧ su.stops = [] := by rw [hsu]; exact ⟨rfl, rfl, rfl, rfl, rfl⟩
  obtain ⟨sp, hsp⟩ : ∃ sp, sp = st0 xs := ⟨_, rfl⟩
  rw [← hsp] at KR
  have hp0 : sp.kind = 2 ∧ sp.val = 0 ∧ sp.steps = 0 ∧ sp.outs = [] ∧ sp.stops = [] := by rw [hsp]; exact ⟨rfl, rfl, rfl, rfl, rfl⟩
  have HS0 := hide hs0
  have HP0 := hide hp0
  clear hTe hSe hCe hsu hsp hs0 hp0 hTs hCl hxl hp4
  obtain ⟨w1, hw1, HP1, HR1, HL1, hz1⟩ := open_cmp w P R V (.slice ac L.length cc)
  have HW := hide hw1
  have HH := hide hH
  have HT := hide hT
  have HA := hide hA
  clear hw1 hH hT hA hp hx
  go_enter Tryd.func38, Tryd.ntmps38
  go_upto_region 1 with fail
  rw [← unhide HW]
  have p0 := (unhide HP1).c0
  have p1 := (unhide HP1).c1
  have p2 := (unhide HP1).c2
  have p3 := (unhide HP1).c3
  go_wp2_with fail
  refine (unhide KC w1 ((unhide HH).below' (unhide HL1)) ((unhide HT).below (unhide HL1) hw0) (by omega)).mono ?_
  rintro _ w2 ⟨uo, uc, rfl, hown, hb2⟩
  clear p0 p1 p2 p3 KC
  have hz2 := hb2.size
  have HP2 := hide ((unhide HP1).keep (Keep.of_below hb2 (fun _ => False)) (fun h => h))
  have HR2 := hide ((hb2.block (w.heap.size + 1) hz1).trans (unhide HR1))
  have HL2 : Hid (Below w.heap.size w w2) := (unhide HL1).trans (hb2.mono (by omega))
  obtain ⟨w3, hw3⟩ : ∃ w3, w3 = w2.alloc (.cells #[.int .i64 K, .int .i64 S, .int .i64 P, .int .i64 V, .slice uo C.length uc, .string T] 26) := ⟨_, rfl⟩
  have hb3 : Below w2.heap.size w2 w3 := by rw [hw3]; exact below_alloc _ _
  have HU3 : Hid (UnB w3 w2.heap.size K S P V (.slice uo C.length uc) T) := by rw [hw3]; exact heap_alloc_new _ _
  have hz3 : w2.heap.size < w3.heap.size := by rw [hw3]; simp
  have HP3 := hide ((unhide HP2).keep (Keep.of_below hb3 (fun _ => False)) (fun h => h))
  have HR3 := hide ((hb3.block (w.heap.size + 1) (by omega)).trans (unhide HR2))
  have HL3 : Hid (Below w.heap.size w w3) := (unhide HL2).trans (hb3.mono (unhide HL2).size)
  have HO3 := hide (own_keep hown (Keep.of_below hb3 (fun _ => False)) (fun _ _ h => h))
  have HW3 := hide hw3
  clear hb2 hb3 hw3 HP1 HR1 HL1 hown HP2 HR2 HL2
  go_upto_region 2 with fail
  rw [← unhide HW3]
  have p0 := (unhide HP3).c0
  have p1 := (unhide HP3).c1
  have p2 := (unhide HP3).c2
  have p3 := (unhide HP3).c3
  go_wp2_with fail
  refine (unhide KI w3 ((unhide HH).below' (unhide HL3)) ((unhide HT).below (unhide HL3) hw0) (by omega)).mono ?_
  rintro _ w4 ⟨rfl, hb4⟩
  clear p0 p1 p2 p3 KI HW3
  have hz4 := hb4.size
  have HP4 := hide ((unhide HP3).keep (Keep.of_below hb4 (fun _ => False)) (fun h => h))
  have HR4 := hide ((hb4.block (w.heap.size + 1) (by omega)).trans (unhide HR3))
  have HL4 : Hid (Below w.heap.size w w4) := (unhide HL3).trans (hb4.mono (unhide HL3).size)
  have HO4 := hide (own_keep (unhide HO3) (Keep.of_below hb4 (fun _ => False)) (fun _ _ h => h))
  have HU4 := hide ((unhide HU3).below hb4 hz3)
  clear hb4 HP3 HR3 HL3 HO3 HU3
  have u0 := (unhide HU4).c0
  have u1 := (unhide HU4).c1
  have u2 := (unhide HU4).c2
  have u3 := (unhide HU4).c3
  have u4 := (unhide HU4).c4
  have u5 := (unhide HU4).c5
  go_wp2_with fail
  refine (unhide KM uo uc w4 (held_own (unhide HO4)) ((unhide HT).below (unhide HL4) hw0) (by omega)).mono ?_
  rintro _ w5 ⟨rfl, hb5⟩
  clear u0 u1 u2 u3 u4 u5 KM
  have hz5 := hb5.size
  have HP5 := hide ((unhide HP4).keep (Keep.of_below hb5 (fun _ => False)) (fun h => h))
  have HR5 := hide ((hb5.block (w.heap.size + 1) (by omega)).trans (unhide HR4))
  have HL5 : Hid (Below w.heap.size w w5) := (unhide HL4).trans (hb5.mono (unhide HL4).size)
  have HO5 := hide (own_keep (unhide HO4) (Keep.of_below hb5 (fun _ => False)) (fun _ _ h => h))
  have HU5 := hide ((unhide HU4).below hb5 (by omega))
  clear hb5 HP4 HR4 HL4 HO4 HU4
  have u0 := (unhide HU5).c0
  have u2 := (unhide HU5).c2
  have u3 := (unhide HU5).c3
  have p0 := (unhide HP5).c0
  have p1 := (unhide HP5).c1
  have p2 := (unhide HP5).c2
  have p3 := (unhide HP5).c3
  go_wp2_with fail
  refine (unhide KR w5 ((unhide HH).below' (unhide HL5)) ((unhide HA).below (unhide HL5)) ((unhide HT).below (unhide HL5) hw0) (by omega)).mono ?_
  rintro _ w6 ⟨_, rfl, ⟨vo, vs, rfl, ho6, hs6⟩, hb6⟩
  obtain ⟨k1, k2, k3, k4, k5⟩ := unhide HP0
  rw [show ((0, sp) : Int × St).2 = sp from rfl, k4] at ho6
  rw [show ((0, sp) : Int × St).2 = sp from rfl, k5] at hs6
  obtain ⟨oo, oc, rfl, _, _⟩ := own_heldI (xs := []) ho6
  obtain ⟨so, sc, rfl, _, _⟩ := own_heldS (l := []) hs6
  rw [show ((0, sp) : Int × St).2 = sp from rfl, show ((0, sp) : Int × St).1 = 0 from rfl, k1, k2, k3, show (([] : List Int).length) = 0 from rfl, show (([] : List Sn).length) = 0 from rfl, show (((0 : Nat)) : Int) = 0 from rfl]
  clear k1 k2 k3 k4 k5 ho6 hs6 p0 p1 p2 p3 u0 u2 u3 KR
  have hz6 := hb6.size
  obtain ⟨w7, hw7⟩ : ∃ w7, w7 = w6.alloc (.cells #[.int .i64 2, .int .i64 0, .int .i64 0, .slice oo 0 oc, .slice so 0 sc] 37) := ⟨_, rfl⟩
  have hb7 : Below w6.heap.size w6 w7 := by rw [hw7]; exact below_alloc _ _
  have HX7 : Hid (w7.heap[w6.heap.size]? = some (.cells #[.int .i64 2, .int .i64 0, .int .i64 0, .slice oo 0 oc, .slice so 0 sc] 37 (0, 0))) := by rw [hw7]; exact heap_alloc_new _ _
  have hz7 : w6.heap.size < w7.heap.size := by rw [hw7]; simp
  have hb57 : Below w5.heap.size w5 w7 := hb6.trans (hb7.mono hz6)
  have HR7 := hide ((hb57.block (w.heap.size + 1) (by omega)).trans (unhide HR5))
  have HL7 : Hid (Below w.heap.size w w7) := (unhide HL5).trans (hb57.mono (unhide HL5).size)
  have HO7 := hide (own_keep (unhide HO5) (Keep.of_below hb57 (fun _ => False)) (fun _ _ h => h))
  have HU7 := hide ((unhide HU5).below hb57 (by omega))
  have HW7 := hide hw7
  clear hb6 hb7 hw7 hb57 HP5 HR5 HL5 HO5 HU5
  go_upto_region 7 with fail
  rw [← unhide HW7]
  have u0 := (unhide HU7).c0
  have u1 := (unhide HU7).c1
  have u2 := (unhide HU7).c2
  have u3 := (unhide HU7).c3
  have u4 := (unhide HU7).c4
  have u5 := (unhide HU7).c5
  go_wp2_with fail
  refine (unhide KN uo uc w7 (held_own (unhide HO7)) ((unhide HA).below (unhide HL7)) ((unhide HT).below (unhide HL7) hw0) (by omega)).mono ?_
  rintro _ w8 ⟨_, rfl, ⟨vo, vs, rfl, ho8, hs8⟩, hb8⟩
  obtain ⟨k1, k2, k3, k4, k5⟩ := unhide HS0
  rw [show ((0, su) : Int × St).2 = su from rfl, k4] at ho8
  rw [show ((0, su) : Int × St).2 = su from rfl, k5] at hs8
  obtain ⟨oo', oc', rfl, _, _⟩ := own_heldI (xs := []) ho8
  obtain ⟨so', sc', rfl, _, _⟩ := own_heldS (l := []) hs8
  rw [show ((0, su) : Int × St).2 = su from rfl, show ((0, su) : Int × St).1 = 0 from rfl, k1, k2, k3, show (([] : List Int).length) = 0 from rfl, show (([] : List Sn).length) = 0 from rfl, show (((0 : Nat)) : Int) = 0 from rfl]
  clear k1 k2 k3 k4 k5 ho8 hs8 u0 u1 u2 u3 u4 u5 KN HW7
  have hz8 := hb8.size
  obtain ⟨w9, hw9⟩ : ∃ w9, w9 = w8.alloc (.cells #[.int .i64 2, .int .i64 0, .int .i64 0, .slice oo' 0 oc', .slice so' 0 sc'] 37) := ⟨_, rfl⟩
  have hb9 : Below w8.heap.size w8 w9 := by rw [hw9]; exact below_alloc _ _
  have HY9 : Hid (w9.heap[w8.heap.size]? = some (.cells #[.int .i64 2, .int .i64 0, .int .i64 0, .slice oo' 0 oc', .slice so' 0 sc'] 37 (0, 0))) := by rw [hw9]; exact heap_alloc_new _ _
  have hb79 : Below w7.heap.size w7 w9 := hb8.trans (hb9.mono hz8)
  have HR9 := hide ((hb79.block (w.heap.size + 1) (by omega)).trans (unhide HR7))
  have HL9 : Hid (Below w.heap.size w w9) := (unhide HL7).trans (hb79.mono (unhide HL7).size)
  have HO9 := hide (own_keep (unhide HO7) (Keep.of_below hb79 (fun _ => False)) (fun _ _ h => h))
  have HU9 := hide ((unhide HU7).below hb79 (by omega))
  have HX9 := hide ((hb79.block w6.heap.size hz7).trans (unhide HX7))
  have HW9 := hide hw9
  clear hb8 hb9 hw9 hb79 HR7 HL7 HO7 HU7 HX7
  go_upto_region 8 with fail
  rw [← unhide HW9]
  have x0 : w9.cell? ⟨w6.heap.size, 0, none⟩ = some (.int .i64 2) := (cell_of_row w9 _ 0 _ 37 (0, 0) (unhide HX9)).trans rfl
  have x2 : w9.cell? ⟨w6.heap.size, 2, none⟩ = some (.int .i64 0) := (cell_of_row w9 _ 2 _ 37 (0, 0) (unhide HX9)).trans rfl
  have x3 : w9.cell? ⟨w6.heap.size, 3, none⟩ = some (.slice oo 0 oc) := (cell_of_row w9 _ 3 _ 37 (0, 0) (unhide HX9)).trans rfl
  have x4 : w9.cell? ⟨w6.heap.size, 4, none⟩ = some (.slice so 0 sc) := (cell_of_row w9 _ 4 _ 37 (0, 0) (unhide HX9)).trans rfl
  have y0 : w9.cell? ⟨w8.heap.size, 0, none⟩ = some (.int .i64 2) := (cell_of_row w9 _ 0 _ 37 (0, 0) (unhide HY9)).trans rfl
  have y2 : w9.cell? ⟨w8.heap.size, 2, none⟩ = some (.int .i64 0) := (cell_of_row w9 _ 2 _ 37 (0, 0) (unhide HY9)).trans rfl
  have y3 : w9.cell? ⟨w8.heap.size, 3, none⟩ = some (.slice oo' 0 oc') := (cell_of_row w9 _ 3 _ 37 (0, 0) (unhide HY9)).trans rfl
  have y4 : w9.cell? ⟨w8.heap.size, 4, none⟩ = some (.slice so' 0 sc') := (cell_of_row w9 _ 4 _ 37 (0, 0) (unhide HY9)).trans rfl
  have u0 := (unhide HU9).c0
  have u1 := (unhide HU9).c1
  have u2 := (unhide HU9).c2
  have u3 := (unhide HU9).c3
  have u4 := (unhide HU9).c4
  have u5 := (unhide HU9).c5
  have rf : ∀ o, w9.frozen? ⟨w.heap.size + 1, o, none⟩ = false := fun o => by have h := unhide HR9; simp [World.frozen?, h]
  go_upto_region 10 with fail
  have r0 : w9.cell? ⟨w.heap.size + 1, 0, none⟩ = some (.int .i64 0) := (cell_of_row w9 _ 0 _ 26 (0, 0) (unhide HR9)).trans rfl
  have r1 : w9.cell? ⟨w.heap.size + 1, 1, none⟩ = some (.int .i64 0) := (cell_of_row w9 _ 1 _ 26 (0, 0) (unhide HR9)).trans rfl
  have r2 : w9.cell? ⟨w.heap.size + 1, 2, none⟩ = some (.int .i64 0) := (cell_of_row w9 _ 2 _ 26 (0, 0) (unhide HR9)).trans rfl
  have r3 : w9.cell? ⟨w.heap.size + 1, 3, none⟩ = some (.int .i64 0) := (cell_of_row w9 _ 3 _ 26 (0, 0) (unhide HR9)).trans rfl
  have r4 : w9.cell? ⟨w.heap.size + 1, 4, none⟩ = some (.slice none 0 0) := (cell_of_row w9 _ 4 _ 26 (0, 0) (unhide HR9)).trans rfl
  have r5 : w9.cell? ⟨w.heap.size + 1, 5, none⟩ = some (.string ⟨#[]⟩) := (cell_of_row w9 _ 5 _ 26 (0, 0) (unhide HR9)).trans rfl
  clear x0 y0
  have hk0 : ∀ (wq : World) (j o : Nat) (z : Value), (wq.setCell ⟨w.heap.size + 1, j, none⟩ z).cell? ⟨w2.heap.size, o, none⟩ = wq.cell? ⟨w2.heap.size, o, none⟩ := fun wq j o z => World.cell?_setCell_other _ _ _ _ (fun e => by injection e with e1; omega)
  have hk1 : ∀ (wq : World) (j o : Nat) (z : Value), (wq.setCell ⟨w.heap.size + 1, j, none⟩ z).cell? ⟨w6.heap.size, o, none⟩ = wq.cell? ⟨w6.heap.size, o, none⟩ := fun wq j o z => World.cell?_setCell_other _ _ _ _ (fun e => by injection e with e1; omega)
  have hk2 : ∀ (wq : World) (j o : Nat) (z : Value), (wq.setCell ⟨w.heap.size + 1, j, none⟩ z).cell? ⟨w8.heap.size, o, none⟩ = wq.cell? ⟨w8.heap.size, o, none⟩ := fun wq j o z => World.cell?_setCell_other _ _ _ _ (fun e => by injection e with e1; omega)
  go_region_held3 (fun w' => w'.cell? ⟨w2.heap.size, 0, none⟩ = some (.int .i64 K) ∧ w'.cell? ⟨w2.heap.size, 1, none⟩ = some (.int .i64 S) ∧ w'.cell? ⟨w2.heap.size, 2, none⟩ = some (.int .i64 P) ∧ w'.cell? ⟨w2.heap.size, 3, none⟩ = some (.int .i64 V) ∧ w'.cell? ⟨w2.heap.size, 4, none⟩ = some (.slice uo C.length uc) ∧ w'.cell? ⟨w2.heap.size, 5, none⟩ = some (.string T) ∧ w'.cell? ⟨w6.heap.size, 2, none⟩ = some (.int .i64 0) ∧ w'.cell? ⟨w6.heap.size, 3, none⟩ = some (.slice oo 0 oc) ∧ w'.cell? ⟨w6.heap.size, 4, none⟩ = some (.slice so 0 sc) ∧ w'.cell? ⟨w8.heap.size, 2, none⟩ = some (.int .i64 0) ∧ w'.cell? ⟨w8.heap.size, 3, none⟩ = some (.slice oo' 0 oc') ∧ w'.cell? ⟨w8.heap.size, 4, none⟩ = some (.slice so' 0 sc')) (first | go_keep | (simp [*]; done) | assumption) (fail)
  have e0 : (IntKind.i64.wrap (IntKind.i64.wrap (IntKind.i64.wrap 0)) == 0) = true := by decide
  rw [e0]
  clear hk0 hk1 hk2 x2 x3 x4 y2 y3 y4 u0 u1 u2 u3 u4 u5 e0
  obtain ⟨wf, hwf⟩ : ∃ wf, wf = ((((((w9.setCell ⟨w.heap.size + 1, 0, none⟩ (.int .i64 K)).setCell ⟨w.heap.size + 1, 1, none⟩ (.int .i64 S)).setCell ⟨w.heap.size + 1, 2, none⟩ (.int .i64 P)).setCell ⟨w.heap.size + 1, 3, none⟩ (.int .i64 V)).setCell ⟨w.heap.size + 1, 4, none⟩ (.slice uo C.length uc)).setCell ⟨w.heap.size + 1, 5, none⟩ (.string T)).drew := ⟨_, rfl⟩
  have hkk : Keep (fun k => k = w.heap.size + 1) w9 wf := by rw [hwf]; exact (keep6 w9 (w.heap.size + 1) _ _ _ _ _ _).drew
  have HRF : Hid (wf.heap[w.heap.size + 1]? = some (.cells #[.int .i64 K, .int .i64 S, .int .i64 P, .int .i64 V, .slice uo C.length uc, .string T] 26 (0, 0))) := by rw [hwf]; exact (drew_block _ _).trans (set6 (unhide HR9) _ _ _ _ _ _)
  have HFIN := hide (And.intro (own_keep (own_weakR (unhide HO9) (show w.heap.size ≤ w1.heap.size by omega)) hkk (fun g hg e => by have := (own_in (unhide HO9) g hg).1; omega)) ((unhide HL9).trans (hkk.below (unhide HL9).size (fun k hk e => by omega))))
  rw [← hwf]
  clear hkk hwf
  go_wp2_with fail
  refine bodyPost_ret (results_unit rfl _ _ (w.heap.size + 1) _ rfl (unhide HRF) rfl) rfl ?_
  exact ⟨uo, uc, rfl, held_own (unhide HFIN).1, (unhide HFIN).1, (unhide HFIN).2⟩
end Go.Proofs.YtoepcplbpochpaaDoor

/-
  What the walks through the statements of stage 4 carry: a program and its unit in memory, results of runs.
-/
namespace Go.Proofs.YtoepcplbpochpaaDoor
open Go.RowKit

/-- A result's block. -/
structure ResAt (w : World) (N base : Nat) (s : St) (oo : Option Addr) (oc : Nat) (so : Option Addr) (sc : Nat) : Prop where
  blk : w.heap[N]? = some (.cells #[.int .i64 s.kind, .int .i64 s.val, .int .i64 (s.steps : Int), .slice oo s.outs.length oc, .slice so s.stops.length sc] 37 (0, 0))
  outs : w.ownsRow base 3 1 (.slice oo s.outs.length oc) s.outs.length (intCells s.outs)
  stops : w.ownsRow base 63 5 (.slice so s.stops.length sc) s.stops.length (snCells s.stops)
theorem ResAt.lt {w : World} {N base : Nat} {s : St} {oo : Option Addr} {oc : Nat} {so : Option Addr} {sc : Nat} (h : ResAt w N base s oo oc so sc) : N < w.heap.size := (Array.getElem?_eq_some_iff.1 h.blk).1
theorem ResAt.below {w w' : World} {N base : Nat} {s : St} {oo : Option Addr} {oc : Nat} {so : Option Addr} {sc : Nat} (h : ResAt w N base s oo oc so sc) (hb : Below w.heap.size w w') : ResAt w' N base s oo oc so sc :=
  ⟨(hb.block N h.lt).trans h.blk, own_keep h.outs (Keep.of_below hb (fun _ => False)) (fun _ _ h => h), own_keep h.stops (Keep.of_below hb (fun _ => False)) (fun _ _ h => h)⟩
theorem ResAt.res {w : World} {N base : Nat} {s : St} {oo : Option Addr} {oc : Nat} {so : Option Addr} {sc : Nat} (h : ResAt w N base s oo oc so sc) : ResOf w base (.agg #[.int .i64 s.kind, .int .i64 s.val, .int .i64 (s.steps : Int), .slice oo s.outs.length oc, .slice so s.stops.length sc]) s := ⟨_, _, rfl, h.outs, h.stops⟩
theorem ResAt.c0 {w : World} {N base : Nat} {s : St} {oo : Option Addr} {oc : Nat} {so : Option Addr} {sc : Nat} (h : ResAt w N base s oo oc so sc) : w.cell? ⟨N, 0, none⟩ = some (.int .i64 s.kind) := (cell_of_row w N 0 _ 37 (0, 0) h.blk).trans rfl
theorem ResAt.c1 {w : World} {N base : Nat} {s : St} {oo : Option Addr} {oc : Nat} {so : Option Addr} {sc : Nat} (h : ResAt w N base s oo oc so sc) : w.cell? ⟨N, 1, none⟩ = some (.int .i64 s.val) := (cell_of_row w N 1 _ 37 (0, 0) h.blk).trans rfl
theorem ResAt.c2 {w : World} {N base : Nat} {s : St} {oo : Option Addr} {oc : Nat} {so : Option Addr} {sc : Nat} (h : ResAt w N base s oo oc so sc) : w.cell? ⟨N, 2, none⟩ = some (.int .i64 (s.steps : Int)) := (cell_of_row w N 2 _ 37 (0, 0) h.blk).trans rfl
theorem ResAt.c3 {w : World} {N base : Nat} {s : St} {oo : Option Addr} {oc : Nat} {so : Option Addr} {sc : Nat} (h : ResAt w N base s oo oc so sc) : w.cell? ⟨N, 3, none⟩ = some (.slice oo s.outs.length oc) := (cell_of_row w N 3 _ 37 (0, 0) h.blk).trans rfl
theorem ResAt.c4 {w : World} {N base : Nat} {s : St} {oo : Option Addr} {oc : Nat} {so : Option Addr} {sc : Nat} (h : ResAt w N base s oo oc so sc) : w.cell? ⟨N, 4, none⟩ = some (.slice so s.stops.length sc) := (cell_of_row w N 4 _ 37 (0, 0) h.blk).trans rfl
/-- Behind a run: its result, boxed. -/
theorem after_run {w w6 : World} {s : St} {e : Ending} (h : RunPost w (0, s) e w6) : ∃ oo oc so sc, e = .returned (.tuple #[.agg #[.int .i64 s.kind, .int .i64 s.val, .int .i64 (s.steps : Int), .slice oo s.outs.length oc, .slice so s.stops.length sc], .int .i64 0]) ∧
    ∃ w7, w7 = w6.alloc (.cells #[.int .i64 s.kind, .int .i64 s.val, .int .i64 (s.steps : Int), .slice oo s.outs.length oc, .slice so s.stops.length sc] 37) ∧ Hid (ResAt w7 w6.heap.size w.heap.size s oo oc so sc) ∧ Hid (Below w.heap.size w w7) ∧ w.heap.size ≤ w6.heap.size := by
  obtain ⟨v, rfl, ⟨vo, vs, rfl, ho, hs⟩, hb⟩ := h
  obtain ⟨oo, oc, rfl, _, _⟩ := own_heldI ho
  obtain ⟨so, sc, rfl, _, _⟩ := own_heldS hs
  refine ⟨oo, oc, so, sc, rfl, _, rfl, ⟨heap_alloc_new _ _, ?_, ?_⟩, hb.trans ((below_alloc _ _).mono hb.size), hb.size⟩
  · exact own_keep ho (Keep.of_below (below_alloc _ _) (fun _ => False)) (fun _ _ h => h)
  · exact own_keep hs (Keep.of_below (below_alloc _ _) (fun _ => False)) (fun _ _ h => h)
/-- A right program at Np, its args. -/
structure LabP (w : World) (Np : Nat) (P R V : Nat) (L : List In4) (ac : Option Addr) (cc : Nat) (aa : Option Addr) (xs : List Int) : Prop where
  prog : ProgB w Np P R V (.slice ac L.length cc)
  code : HeldIns w ac L
  args : HeldI w aa xs
  tab : Tab w
  pos : 0 < w.heap.size
theorem LabP.below {w w' : World} {Np P R V : Nat} {L : List In4} {ac : Option Addr} {cc : Nat} {aa : Option Addr} {xs : List Int} (h : LabP w Np P R V L ac cc aa xs) (hb : Below w.heap.size w w') : LabP w' Np P R V L ac cc aa xs :=
  ⟨(hb.block Np (Array.getElem?_eq_some_iff.1 h.prog).1).trans h.prog, h.code.below' hb, h.args.below hb, h.tab.below hb h.pos, by have := hb.size; have := h.pos; omega⟩
/-- Its unit at Nu. -/
structure LabU (w : World) (Nu : Nat) (P R V K : Nat) (L : List In4) (uo : Option Addr) (uc : Nat) : Prop where
  unit : UnB w Nu K (slotsB L P R K) P V (.slice uo (cmpC P R K L).length uc) (encT (cmpR P R V K L))
  code : HeldIns w uo (cmpC P R K L)
theorem LabU.below {w w' : World} {Nu P R V K : Nat} {L : List In4} {uo : Option Addr} {uc : Nat} (h : LabU w Nu P R V K L uo uc) (hb : Below w.heap.size w w') : LabU w' Nu P R V K L uo uc :=
  ⟨h.unit.below hb (Array.getElem?_eq_some_iff.1 h.unit).1, h.code.below' hb⟩
theorem box_prog (w : World) (P R V : Int) (sl : Value) : ∃ w1, w1 = w.alloc (.cells #[.int .i64 P, .int .i64 R, .int .i64 V, sl] 24) ∧ Hid (ProgB w1 w.heap.size P R V sl) ∧ Hid (Below w.heap.size w w1) ∧ w1.heap.size = w.heap.size + 1 :=
  ⟨_, rfl, progb_alloc w P R V sl, below_alloc _ _, by simp⟩
theorem box_unit (w : World) (K S P V : Int) (sl : Value) (T : ByteArray) : ∃ w1, w1 = w.alloc (.cells #[.int .i64 K, .int .i64 S, .int .i64 P, .int .i64 V, sl, .string T] 26) ∧ Hid (UnB w1 w.heap.size K S P V sl T) ∧ Hid (Below w.heap.size w w1) ∧ w1.heap.size = w.heap.size + 1 :=
  ⟨_, rfl, heap_alloc_new _ _, below_alloc _ _, by simp⟩
theorem labu_cells {w : World} {Nu P R V K : Nat} {L : List In4} {uo : Option Addr} {uc : Nat} (h : LabU w Nu P R V K L uo uc) :
    w.cell? ⟨Nu, 0, none⟩ = some (.int .i64 K) ∧ w.cell? ⟨Nu, 1, none⟩ = some (.int .i64 (slotsB L P R K : Nat)) ∧ w.cell? ⟨Nu, 2, none⟩ = some (.int .i64 P) ∧ w.cell? ⟨Nu, 3, none⟩ = some (.int .i64 V) ∧ w.cell? ⟨Nu, 4, none⟩ = some (.slice uo (cmpC P R K L).length uc) ∧ w.cell? ⟨Nu, 5, none⟩ = some (.string (encT (cmpR P R V K L))) :=
  ⟨h.unit.c0, h.unit.c1, h.unit.c2, h.unit.c3, h.unit.c4, h.unit.c5⟩
end Go.Proofs.YtoepcplbpochpaaDoor

/-
  The built-in copy between two slices whose elements take several cells each; the making of a slice and the filling of it.
-/
namespace Go.Proofs.YtoepcplbpochpaaDoor
open Go.RowKit

theorem run_copy_rows {P : Program} (w : World) (dT sT ty elem : TypeId) (g o dLen dCap : Nat) (a : Addr) (sLen sCap k : Nat) (cur : Array Value) (t : TypeId) (cs : List Value)
    (hu : P.underlying dT = some (.slice elem)) (hs : (P.info? elem).map (·.size) = some k)
    (hg : w.heap[g]? = some (.cells cur t (0, 0))) (hn : cs.length = Nat.min sLen dLen * k)
    (hsrc : ∀ j v, cs[j]? = some v → w.cell? (a.add j) = some v) (hfit : o + cs.length ≤ cur.size) (h1 : ∀ v ∈ cs, v.oneCell' = true) :
    (Builtin.copy_ #[dT, sT] ty #[.slice (some ⟨g, o, none⟩) dLen dCap, .slice (some a) sLen sCap]).run P w =
      .ok (goInt (Nat.min sLen dLen)) (w.setRow g (cur.toList.take o ++ cs ++ cur.toList.drop (o + cs.length)).toArray) := by
  have hl := run_loadCells_list (P := P) w a cs hsrc
  have hst := run_storeCells_at P g o t cs 0 cur w hg (by simpa using hfit) h1
  cases hq : P.info? elem with
  | none => simp [hq] at hs
  | some i =>
    have hi : i.size = k := by simpa [hq] using hs
    simp [Builtin.copy_, run_underlying hu, Builtin.lenOf, Builtin.firstCells, sizeOf, typeInfo, hq, hi, ← hn, hl, hst]

theorem run_copy_empty {P : Program} (w : World) (dT sT ty elem : TypeId) (d a : Option Addr) (dLen dCap sCap k : Nat) (hu : P.underlying dT = some (.slice elem)) (hs : (P.info? elem).map (·.size) = some k) :
    (Builtin.copy_ #[dT, sT] ty #[.slice d dLen dCap, .slice a 0 sCap]).run P w = .ok (goInt 0) w := by
  cases hq : P.info? elem with
  | none => simp [hq] at hs
  | some i =>
    have hl : ∀ (x : Addr), (loadCells x 0).run P w = .ok #[] w := fun x => by simpa using run_loadCells_list (P := P) w x [] (by simp)
    cases d <;> cases a <;> simp [Builtin.copy_, run_underlying hu, Builtin.lenOf, Builtin.firstCells, sizeOf, typeInfo, hq, storeCells, hl]

/-- copy over the head of a row that the call itself made; the source nil, empty, or as long as cs says: the world behind it, by what is known of it. -/
theorem copy_rows {P : Program} {w : World} (dT sT elem : TypeId) (k : Nat) (hu : P.underlying dT = some (.slice elem)) (hsz : (P.info? elem).map (·.size) = some k)
    (sp : Option Addr) (g dLen dCap sLen sCap : Nat) (hle : sLen ≤ dLen)
    (cur : Array Value) (t : TypeId) (hg : w.heap[g]? = some (.cells cur t (0, 0))) (cs : List Value) (hn : cs.length = sLen * k)
    (hpos : 0 < sLen → ∃ ad, sp = some ad ∧ ∀ j v, cs[j]? = some v → w.cell? (ad.add j) = some v)
    (hfit : cs.length ≤ cur.size) (h1 : ∀ v ∈ cs, v.oneCell' = true) (B : Nat) (w0 : World) (hb : Below B w0 w) (hBg : B ≤ g) :
    ∃ w', (∀ ty, (Builtin.copy_ #[dT, sT] ty #[.slice (some ⟨g, 0, none⟩) dLen dCap, .slice sp sLen sCap]).run P w = .ok (goInt sLen) w') ∧
      w'.heap[g]? = some (.cells (cs ++ cur.toList.drop cs.length).toArray t (0, 0)) ∧ Below B w0 w' := by
  by_cases h0 : sLen = 0
  · subst h0
    obtain rfl : cs = [] := List.eq_nil_of_length_eq_zero (by omega)
    exact ⟨w, fun ty => run_copy_empty (P := P) w dT sT ty elem (some ⟨g, 0, none⟩) sp dLen dCap sCap k hu hsz, by simpa using hg, hb⟩
  · obtain ⟨ad, rfl, hsrc⟩ := hpos (by omega)
    have hmin : Nat.min sLen dLen = sLen := Nat.min_eq_left hle
    refine ⟨w.setRow g (cur.toList.take 0 ++ cs ++ cur.toList.drop (0 + cs.length)).toArray, fun ty => ?_, ?_, below_setRow hb hBg _⟩
    · have hrun := run_copy_rows (P := P) w dT sT ty elem g 0 dLen dCap ad sLen sCap k cur t cs hu hsz hg (by rw [hmin]; exact hn) hsrc (by simpa using hfit) h1
      rw [hmin] at hrun
      exact hrun
    · have := setRow_heap w g cur (cur.toList.take 0 ++ cs ++ cur.toList.drop (0 + cs.length)).toArray t _ hg
      simpa using this

theorem keep_setRow (w : World) (g : Nat) (cs : Array Value) : Keep (fun k => k = g) w (w.setRow g cs) :=
  ⟨rfl, rfl, rfl, by simp [World.setRow], fun k _ hn => setRow_other w g k _ hn⟩
/-- The same, every other block as it was. -/
theorem copy_keep {P : Program} {w : World} (dT sT elem : TypeId) (k : Nat) (hu : P.underlying dT = some (.slice elem)) (hsz : (P.info? elem).map (·.size) = some k)
    (sp : Option Addr) (g dLen dCap sLen sCap : Nat) (hle : sLen ≤ dLen)
    (cur : Array Value) (t : TypeId) (hg : w.heap[g]? = some (.cells cur t (0, 0))) (cs : List Value) (hn : cs.length = sLen * k)
    (hpos : 0 < sLen → ∃ ad, sp = some ad ∧ ∀ j v, cs[j]? = some v → w.cell? (ad.add j) = some v)
    (hfit : cs.length ≤ cur.size) (h1 : ∀ v ∈ cs, v.oneCell' = true) :
    ∃ w', (∀ ty, (Builtin.copy_ #[dT, sT] ty #[.slice (some ⟨g, 0, none⟩) dLen dCap, .slice sp sLen sCap]).run P w = .ok (goInt sLen) w') ∧
      w'.heap[g]? = some (.cells (cs ++ cur.toList.drop cs.length).toArray t (0, 0)) ∧ Keep (fun k => k = g) w w' := by
  by_cases h0 : sLen = 0
  · subst h0
    obtain rfl : cs = [] := List.eq_nil_of_length_eq_zero (by omega)
    exact ⟨w, fun ty => run_copy_empty (P := P) w dT sT ty elem (some ⟨g, 0, none⟩) sp dLen dCap sCap k hu hsz, by simpa using hg, Keep.refl _ _⟩
  · obtain ⟨ad, rfl, hsrc⟩ := hpos (by omega)
    have hmin : Nat.min sLen dLen = sLen := Nat.min_eq_left hle
    refine ⟨w.setRow g (cur.toList.take 0 ++ cs ++ cur.toList.drop (0 + cs.length)).toArray, fun ty => ?_, ?_, keep_setRow _ _ _⟩
    · have hrun := run_copy_rows (P := P) w dT sT ty elem g 0 dLen dCap ad sLen sCap k cur t cs hu hsz hg (by rw [hmin]; exact hn) hsrc (by simpa using hfit) h1
      rw [hmin] at hrun
      exact hrun
    · have := setRow_heap w g cur (cur.toList.take 0 ++ cs ++ cur.toList.drop (0 + cs.length)).toArray t _ hg
      simpa using this
end Go.Proofs.YtoepcplbpochpaaDoor
