/-
  Plain mathematics: what the homes of the registers hold, and what fetching and keeping make of it.
-/
import Derived.Test.YtoepcplbpochpaaDoorPiece24

namespace Go.Proofs.YtoepcplbpochpaaDoor
open Go.RowKit

/-- What the home of r holds. -/
def hv (hs : Nat → Bool) (ha : Nat → Nat) (t : St) (r : Nat) : Int := if hs r = true then t.vars (ha r) else t.regs (ha r)
/-- Homes that keep clear of the spare registers, if there are slots; a slot each. -/
structure Clear (hs : Nat → Bool) (ha : Nat → Nat) (R K : Nat) : Prop where
  k2 : 2 ≤ K
  spare : (∃ r, r < R ∧ hs r = true) → ∀ q, q < R → hs q = false → ha q + 2 < K
  slot : ∀ r, r < R → hs r = true → ha r = r
theorem clear_ok (L : List In4) (R K : Nat) (hK : 2 ≤ K) : Clear (homS L R K) (homA L R K) R K := by
  refine ⟨hK, ?_, fun r _ h => (hom_yes h).1⟩
  rintro ⟨r, hr, h⟩ q hq hq'
  have h1 := (hom_yes h).2.2
  have h2 := cnt_gt (colB L R) R r hr
  have h3 := hom_no hq hq'
  have hk : keptB L R K = K - 2 := by
    unfold keptB at h1 ⊢
    split
    · rfl
    · rename_i hn; rw [if_neg hn] at h1; omega
  omega
/-- Two homes are one. -/
def SameH (hs : Nat → Bool) (ha : Nat → Nat) (r q : Nat) : Prop := hs r = hs q ∧ ha r = ha q

/-- What a piece of code may change: the spare registers alone. -/
structure Calm (hs : Nat → Bool) (ha : Nat → Nat) (R : Nat) (t t' : St) (n : Nat) : Prop where
  hom : ∀ r, r < R → hv hs ha t' r = hv hs ha t r
  on : t'.on = t.on
  at_ : t'.at_ = t.at_ + n
  kind : t'.kind = t.kind
  val : t'.val = t.val
  steps : t'.steps = t.steps + n
  outs : t'.outs = t.outs
  stops : t'.stops = t.stops
  env : t'.env = t.env
  vars : t'.vars = t.vars
theorem Calm.refl (hs : Nat → Bool) (ha : Nat → Nat) (R : Nat) (t : St) : Calm hs ha R t t 0 := ⟨fun _ _ => rfl, rfl, rfl, rfl, rfl, rfl, rfl, rfl, rfl, rfl⟩
theorem Calm.trans {hs : Nat → Bool} {ha : Nat → Nat} {R : Nat} {t t1 t2 : St} {n m : Nat} (h : Calm hs ha R t t1 n) (h' : Calm hs ha R t1 t2 m) : Calm hs ha R t t2 (n + m) :=
  ⟨fun r hr => (h'.hom r hr).trans (h.hom r hr), h'.on.trans h.on, by rw [h'.at_, h.at_]; omega, h'.kind.trans h.kind, h'.val.trans h.val, by rw [h'.steps, h.steps]; omega, h'.outs.trans h.outs, h'.stops.trans h.stops, h'.env.trans h.env, h'.vars.trans h.vars⟩
theorem step_load (d a b : Int) (t : St) : stepSt ⟨15, d, a, b⟩ t = (t.reg d.toNat (t.vars a.toNat)).next := rfl
theorem step_store (d a b : Int) (t : St) : stepSt ⟨16, d, a, b⟩ t = (t.var d.toNat (t.regs a.toNat)).next := rfl
/-- Fetching: the register that it names holds what r's home holds; the homes stay; another spare register stays. -/
theorem fetch_calm {hs : Nat → Bool} {ha : Nat → Nat} {R K : Nat} (hc : Clear hs ha R K) {r n : Nat} (hr : r < R) (hn : n ≤ 1) (t : St) :
    Calm hs ha R t (exec (fetC hs ha K r n) t) (fetC hs ha K r n).length ∧ (exec (fetC hs ha K r n) t).regs (fetR hs ha K r n).toNat = hv hs ha t r ∧ (∀ y ∈ fetC hs ha K r n, straight y) ∧
    (∀ q, q ≠ K - 2 + n → (exec (fetC hs ha K r n) t).regs q = t.regs q) ∧ (hs r = false → exec (fetC hs ha K r n) t = t) := by
  have hk2 := hc.k2
  cases e : hs r with
  | false =>
    have e1 : fetC hs ha K r n = [] := by unfold fetC; rw [e, if_neg (by decide)]
    have e2 : fetR hs ha K r n = ha r := by unfold fetR; rw [e, if_neg (by decide)]
    rw [e1, e2]
    refine ⟨Calm.refl _ _ _ _, ?_, fun y hy => (by cases hy), fun _ _ => rfl, fun _ => rfl⟩
    show t.regs ((ha r : Int)).toNat = _
    unfold hv; rw [e, if_neg (by decide), Int.toNat_natCast]
  | true =>
    have e1 : fetC hs ha K r n = [⟨15, (K : Int) - 2 + n, ha r, 0⟩] := by unfold fetC; rw [e, if_pos rfl]
    have e2 : fetR hs ha K r n = (K : Int) - 2 + n := by unfold fetR; rw [e, if_pos rfl]
    rw [e1, e2]
    have hx : exec [⟨15, (K : Int) - 2 + n, ha r, 0⟩] t = (t.reg (K - 2 + n) (t.vars (ha r))).next := by
      show stepSt ⟨15, (K : Int) - 2 + n, ha r, 0⟩ t = _
      rw [step_load, show ((K : Int) - 2 + n).toNat = K - 2 + n by omega, Int.toNat_natCast]
    rw [hx]
    refine ⟨⟨fun q hq => ?_, rfl, rfl, rfl, rfl, rfl, rfl, rfl, rfl, rfl⟩, ?_, ?_, fun q hq => ?_, fun h => by cases h⟩
    · unfold hv
      cases eq : hs q with
      | true => rw [if_pos rfl, if_pos rfl]; rfl
      | false =>
        rw [if_neg (by decide), if_neg (by decide)]
        have := hc.spare ⟨r, hr, e⟩ q hq eq
        exact upd_other t.regs (t.vars (ha r)) (show ha q ≠ K - 2 + n by omega)
    · rw [show ((K : Int) - 2 + n).toNat = K - 2 + n by omega]
      show upd t.regs (K - 2 + n) _ (K - 2 + n) = _
      rw [upd_same]; unfold hv; rw [e, if_pos rfl]
    · intro y hy; rw [List.mem_singleton] at hy; subst hy; exact .inr (.inr (.inr (.inr (.inl rfl))))
    · exact upd_other t.regs (t.vars (ha r)) hq
end Go.Proofs.YtoepcplbpochpaaDoor

/-
  Plain mathematics: what writing a register makes of the homes.
-/
namespace Go.Proofs.YtoepcplbpochpaaDoor
open Go.RowKit

/-- The home of d holds v; other homes stay. -/
structure Wrote (hs : Nat → Bool) (ha : Nat → Nat) (R : Nat) (t t' : St) (n d : Nat) (v : Int) : Prop where
  new : hv hs ha t' d = v
  hom : ∀ r, r < R → ¬ SameH hs ha r d → hv hs ha t' r = hv hs ha t r
  on : t'.on = t.on
  at_ : t'.at_ = t.at_ + n
  kind : t'.kind = t.kind
  val : t'.val = t.val
  steps : t'.steps = t.steps + n
  outs : t'.outs = t.outs
  stops : t'.stops = t.stops
  env : t'.env = t.env
theorem Wrote.behind {hs : Nat → Bool} {ha : Nat → Nat} {R : Nat} {t t1 t2 : St} {n m d : Nat} {v : Int} (h : Calm hs ha R t t1 n) (h' : Wrote hs ha R t1 t2 m d v) : Wrote hs ha R t t2 (n + m) d v :=
  ⟨h'.new, fun r hr hs => (h'.hom r hr hs).trans (h.hom r hr), h'.on.trans h.on, by rw [h'.at_, h.at_]; omega, h'.kind.trans h.kind, h'.val.trans h.val, by rw [h'.steps, h.steps]; omega, h'.outs.trans h.outs, h'.stops.trans h.stops, h'.env.trans h.env⟩
/-- Writing to the goal of d and bringing it home. -/
theorem keep_wrote {hs : Nat → Bool} {ha : Nat → Nat} {R K : Nat} (hc : Clear hs ha R K) {d : Nat} (hd : d < R) (t : St) (v : Int) :
    Wrote hs ha R t (exec (keepC hs ha K d) (t.next.reg (goalR hs ha K d).toNat v)) (1 + (keepC hs ha K d).length) d v ∧ (∀ y ∈ keepC hs ha K d, straight y) := by
  have hk2 := hc.k2
  cases e : hs d with
  | false =>
    have e1 : keepC hs ha K d = [] := by unfold keepC; rw [e, if_neg (by decide)]
    have e2 : goalR hs ha K d = ha d := by unfold goalR; rw [e, if_neg (by decide)]
    rw [e1, e2, Int.toNat_natCast]
    refine ⟨⟨?_, fun r hr hn => ?_, rfl, rfl, rfl, rfl, rfl, rfl, rfl, rfl⟩, fun y hy => (by cases hy)⟩
    · unfold hv; rw [e, if_neg (by decide)]; exact upd_same _ _ _
    · unfold hv
      cases er : hs r with
      | true => rw [if_pos rfl, if_pos rfl]; rfl
      | false => rw [if_neg (by decide), if_neg (by decide)]; exact upd_other t.regs v (fun h => hn ⟨er.trans e.symm, h⟩)
  | true =>
    have e1 : keepC hs ha K d = [⟨16, ha d, (K : Int) - 2, 0⟩] := by unfold keepC; rw [e, if_pos rfl]
    have e2 : goalR hs ha K d = (K : Int) - 2 := by unfold goalR; rw [e, if_pos rfl]
    rw [e1, e2, show ((K : Int) - 2).toNat = K - 2 by omega]
    have hx : exec [⟨16, ha d, (K : Int) - 2, 0⟩] (t.next.reg (K - 2) v) = ((t.next.reg (K - 2) v).var (ha d) v).next := by
      show stepSt ⟨16, ha d, (K : Int) - 2, 0⟩ _ = _
      rw [step_store, show ((K : Int) - 2).toNat = K - 2 by omega, Int.toNat_natCast]
      rw [show (t.next.reg (K - 2) v).regs (K - 2) = v from upd_same _ _ _]
    rw [hx]
    refine ⟨⟨?_, fun r hr hn => ?_, rfl, rfl, rfl, rfl, rfl, rfl, rfl, rfl⟩, fun y hy => ?_⟩
    · unfold hv; rw [e, if_pos rfl]; exact upd_same _ _ _
    · unfold hv
      cases er : hs r with
      | true => rw [if_pos rfl, if_pos rfl]; exact upd_other t.vars v (fun h => hn ⟨er.trans e.symm, h⟩)
      | false =>
        rw [if_neg (by decide), if_neg (by decide)]
        have := hc.spare ⟨d, hd, e⟩ r hr er
        exact upd_other t.regs v (show ha r ≠ K - 2 by omega)
    · rw [List.mem_singleton] at hy; subst hy; exact .inr (.inr (.inr (.inr (.inr rfl))))
theorem exec_app : ∀ (a b : List In4) (t : St), exec (a ++ b) t = exec b (exec a t)
  | [], _, _ => rfl
  | y :: a, b, t => exec_app a b (stepSt y t)
theorem fetC_sec {hs : Nat → Bool} {ha : Nat → Nat} {R K : Nat} (hc : Clear hs ha R K) {a b : Nat} (ha' : a < R) (hb : b < R) (t : St) :
    Calm hs ha R t (exec (fetC hs ha K a 0 ++ fetC hs ha K b 1) t) ((fetC hs ha K a 0).length + (fetC hs ha K b 1).length) ∧ (exec (fetC hs ha K a 0 ++ fetC hs ha K b 1) t).regs (fetR hs ha K a 0).toNat = hv hs ha t a ∧
    (exec (fetC hs ha K a 0 ++ fetC hs ha K b 1) t).regs (fetR hs ha K b 1).toNat = hv hs ha t b := by
  have hk2 := hc.k2
  obtain ⟨c1, c2, _, _, _⟩ := fetch_calm hc (n := 0) ha' (by omega) t
  obtain ⟨d1, d2, _, d4, d5⟩ := fetch_calm hc (n := 1) hb (by omega) (exec (fetC hs ha K a 0) t)
  rw [exec_app]
  refine ⟨c1.trans d1, ?_, d2.trans (c1.hom b hb)⟩
  rw [← c2]
  cases eb : hs b with
  | false => rw [d5 eb]
  | true =>
    refine d4 _ ?_
    unfold fetR
    cases ea : hs a with
    | true => rw [if_pos rfl]; omega
    | false => rw [if_neg (by decide)]; have := hc.spare ⟨b, hb, eb⟩ a ha' ea; omega
/-- A Const. -/
theorem const_wrote {hs : Nat → Bool} {ha : Nat → Nat} {R K : Nat} (hc : Clear hs ha R K) {d : Nat} (hd : d < R) (c : Int) (t : St) :
    Wrote hs ha R t (exec ([⟨0, goalR hs ha K d, c, 0⟩] ++ keepC hs ha K d) t) ([(⟨0, goalR hs ha K d, c, 0⟩ : In4)] ++ keepC hs ha K d).length d c := by
  rw [exec_app, List.length_append]
  exact (keep_wrote hc hd t c).1
end Go.Proofs.YtoepcplbpochpaaDoor

/-
  Plain mathematics: a Copy and the arithmetic, in the unit.
-/
namespace Go.Proofs.YtoepcplbpochpaaDoor
open Go.RowKit

theorem step_copy (d a b : Int) (t : St) : stepSt ⟨1, d, a, b⟩ t = t.next.reg d.toNat (t.regs a.toNat) := rfl
theorem store_wrote {hs : Nat → Bool} {ha : Nat → Nat} {R : Nat} {d : Nat} (e : hs d = true) (t : St) (a : Int) : Wrote hs ha R t (stepSt ⟨16, ha d, a, 0⟩ t) 1 d (t.regs a.toNat) := by
  rw [step_store, Int.toNat_natCast]
  refine ⟨?_, fun r hr hn => ?_, rfl, rfl, rfl, rfl, rfl, rfl, rfl, rfl⟩
  · unfold hv; rw [e, if_pos rfl]; exact upd_same _ _ _
  · unfold hv
    cases er : hs r with
    | true => rw [if_pos rfl, if_pos rfl]; exact upd_other t.vars _ (fun h => hn ⟨er.trans e.symm, h⟩)
    | false => rw [if_neg (by decide), if_neg (by decide)]; rfl
theorem reg_wrote {hs : Nat → Bool} {ha : Nat → Nat} {R : Nat} {d : Nat} (e : hs d = false) (t : St) (v : Int) : Wrote hs ha R t (t.next.reg (ha d) v) 1 d v := by
  refine ⟨?_, fun r hr hn => ?_, rfl, rfl, rfl, rfl, rfl, rfl, rfl, rfl⟩
  · unfold hv; rw [e, if_neg (by decide)]; exact upd_same _ _ _
  · unfold hv
    cases er : hs r with
    | true => rw [if_pos rfl, if_pos rfl]; rfl
    | false => rw [if_neg (by decide), if_neg (by decide)]; exact upd_other t.regs v (fun h => hn ⟨er.trans e.symm, h⟩)
/-- A Copy. -/
theorem copy_wrote {hs : Nat → Bool} {ha : Nat → Nat} {R K : Nat} (hc : Clear hs ha R K) {d a : Nat} (ha' : a < R) (t : St) :
    Wrote hs ha R t (exec (copyC hs ha K d a) t) (copyC hs ha K d a).length d (hv hs ha t a) ∧ ∃ l y, copyC hs ha K d a = l ++ [y] ∧ (∀ x ∈ l, straight x) ∧ straight y := by
  unfold copyC
  cases ed : hs d with
  | true =>
    rw [if_pos rfl]
    obtain ⟨c1, c2, c3, _, _⟩ := fetch_calm hc (n := 0) ha' (by omega) t
    have h := store_wrote (R := R) (ha := ha) ed (exec (fetC hs ha K a 0) t) (fetR hs ha K a 0)
    rw [c2] at h
    refine ⟨?_, fetC hs ha K a 0, _, rfl, c3, .inr (.inr (.inr (.inr (.inr rfl))))⟩
    rw [exec_app, List.length_append]
    exact Wrote.behind c1 h
  | false =>
    rw [if_neg (by decide)]
    cases ea : hs a with
    | true =>
      rw [if_pos rfl]
      refine ⟨?_, [], _, rfl, fun x hx => (by cases hx), .inr (.inr (.inr (.inr (.inl rfl))))⟩
      have h := reg_wrote (R := R) (ha := ha) ed t (hv hs ha t a)
      have e : exec [⟨15, ha d, ha a, 0⟩] t = t.next.reg (ha d) (hv hs ha t a) := by
        show stepSt ⟨15, ha d, ha a, 0⟩ t = _
        rw [step_load, Int.toNat_natCast, Int.toNat_natCast]; unfold hv; rw [ea, if_pos rfl]; rfl
      rw [e]; exact h
    | false =>
      rw [if_neg (by decide)]
      refine ⟨?_, [], _, rfl, fun x hx => (by cases hx), .inr (.inl rfl)⟩
      have h := reg_wrote (R := R) (ha := ha) ed t (hv hs ha t a)
      have e : exec [⟨1, ha d, ha a, 0⟩] t = t.next.reg (ha d) (hv hs ha t a) := by
        show stepSt ⟨1, ha d, ha a, 0⟩ t = _
        rw [step_copy, Int.toNat_natCast, Int.toNat_natCast]; unfold hv; rw [ea, if_neg (by decide)]
      rw [e]; exact h
theorem step_reck {op : Int} (h : 2 ≤ op ∧ op ≤ 6) (d a b : Int) (t : St) : stepSt ⟨op, d, a, b⟩ t = t.next.reckon op d.toNat a.toNat b.toNat := by
  unfold stepSt
  have hp : preSt ⟨op, d, a, b⟩ t = t := pre_eq _ _ (by show op ≤ 10; omega)
  rw [hp]
  unfold doSt
  simp only
  rw [if_neg (by omega), if_neg (by omega), if_neg (by omega), if_neg (by omega), if_neg (by omega), if_neg (by omega), if_pos h]
/-- The arithmetic, where it gives a number. -/
theorem reck_wrote {hs : Nat → Bool} {ha : Nat → Nat} {R K : Nat} (hc : Clear hs ha R K) {d a b : Nat} (hd : d < R) (ha' : a < R) (hb : b < R) {op : Int} (ho : 2 ≤ op ∧ op ≤ 6) (t : St) (hr : 0 ≤ reachE op (hv hs ha t a) (hv hs ha t b)) :
    Wrote hs ha R t (exec (keepC hs ha K d) (stepSt ⟨op, goalR hs ha K d, fetR hs ha K a 0, fetR hs ha K b 1⟩ (exec (fetC hs ha K a 0 ++ fetC hs ha K b 1) t))) ((fetC hs ha K a 0).length + (fetC hs ha K b 1).length + (1 + (keepC hs ha K d).length)) d (reachE op (hv hs ha t a) (hv hs ha t b)) := by
  obtain ⟨c1, c2, c3⟩ := fetC_sec hc ha' hb t
  have e : stepSt ⟨op, goalR hs ha K d, fetR hs ha K a 0, fetR hs ha K b 1⟩ (exec (fetC hs ha K a 0 ++ fetC hs ha K b 1) t) = (exec (fetC hs ha K a 0 ++ fetC hs ha K b 1) t).next.reg (goalR hs ha K d).toNat (reachE op (hv hs ha t a) (hv hs ha t b)) := by
    rw [step_reck ho]
    unfold St.reckon
    show (if reachE op ((exec (fetC hs ha K a 0 ++ fetC hs ha K b 1) t).regs (fetR hs ha K a 0).toNat) ((exec (fetC hs ha K a 0 ++ fetC hs ha K b 1) t).regs (fetR hs ha K b 1).toNat) < 0 then _ else _) = _
    rw [c2, c3, if_neg (by omega)]
    show St.reg _ _ (reachE op ((exec (fetC hs ha K a 0 ++ fetC hs ha K b 1) t).regs (fetR hs ha K a 0).toNat) ((exec (fetC hs ha K a 0 ++ fetC hs ha K b 1) t).regs (fetR hs ha K b 1).toNat)) = _
    rw [c2, c3]
  rw [e]
  exact Wrote.behind c1 (keep_wrote hc hd _ _).1
/-- The arithmetic, where it is trapped. -/
theorem reck_trap {hs : Nat → Bool} {ha : Nat → Nat} {R K : Nat} (hc : Clear hs ha R K) {d a b : Nat} (ha' : a < R) (hb : b < R) {op : Int} (ho : 2 ≤ op ∧ op ≤ 6) (t : St) (hr : reachE op (hv hs ha t a) (hv hs ha t b) < 0) :
    stepSt ⟨op, goalR hs ha K d, fetR hs ha K a 0, fetR hs ha K b 1⟩ (exec (fetC hs ha K a 0 ++ fetC hs ha K b 1) t) = (exec (fetC hs ha K a 0 ++ fetC hs ha K b 1) t).next.ended 1 0 := by
  obtain ⟨c1, c2, c3⟩ := fetC_sec hc ha' hb t
  rw [step_reck ho]
  unfold St.reckon
  show (if reachE op ((exec (fetC hs ha K a 0 ++ fetC hs ha K b 1) t).regs (fetR hs ha K a 0).toNat) ((exec (fetC hs ha K a 0 ++ fetC hs ha K b 1) t).regs (fetR hs ha K b 1).toNat) < 0 then _ else _) = _
  rw [c2, c3, if_pos hr]
end Go.Proofs.YtoepcplbpochpaaDoor

/-
  Plain mathematics: registers that collide have homes of their own.
-/
namespace Go.Proofs.YtoepcplbpochpaaDoor
open Go.RowKit

/-- Two registers that collide have two homes. -/
theorem hit_apart {L : List In4} {R K r d : Nat} (hR : R ≤ 12) (hr : r < R) (hd : d < R) (hne : r ≠ d) (hh : hitB L R r d = true) : ¬ SameH (homS L R K) (homA L R K) r d := by
  rintro ⟨h1, h2⟩
  have hcol : colB L R r ≠ colB L R d := by
    rcases Nat.lt_or_ge r d with h | h
    · exact (colTo_le (hitB L R) R hR d hd).2.1 r h (by rw [hit_symm]; exact hh)
    · exact fun e => (colTo_le (hitB L R) R hR r hr).2.1 d (by omega) hh e.symm
  cases e : homS L R K r with
  | true =>
    rw [(hom_yes e).1, (hom_yes (h1.symm.trans e)).1] at h2
    exact hne h2
  | false =>
    rw [(hom_no hr e).1, (hom_no hd (h1.symm.trans e)).1] at h2
    exact hcol h2
/-- What is written does not touch what is live behind. -/
theorem write_apart {P R V K : Nat} {L : List In4} (hp : RightP P R V L) {i r d : Nat} (hi : i < L.length) (hw : isWr (inAt L i).op = true) (hde : (inAt L i).d = d) (hr : r < R) (hd : d < R) (hne : r ≠ d) (hl : liveB L (i + 1) r = true) : ¬ SameH (homS L R K) (homA L R K) r d :=
  hit_apart (by have := hp.r12; omega) hr hd hne ((hit_iff L R hr).2 (.inr ⟨i, hi, hw, .inr ⟨hde, hl⟩⟩))
/-- Two registers that are live at the beginning have two homes. -/
theorem begin_apart {P R V K : Nat} {L : List In4} (hp : RightP P R V L) {r d : Nat} (hr : r < R) (hd : d < R) (hne : r ≠ d) (h1 : liveB L 0 r = true) (h2 : liveB L 0 d = true) : ¬ SameH (homS L R K) (homA L R K) r d :=
  hit_apart (by have := hp.r12; omega) hr hd hne ((hit_iff L R hr).2 (.inl ⟨h1, h2⟩))
/-- An instruction that writes goes on with the next. -/
theorem wr_next {L : List In4} {i : Nat} (hw : isWr (inAt L i).op = true) : nx1 (inAt L i) i = (i : Int) + 1 := by
  have ho : (inAt L i).op = 0 ∨ (inAt L i).op = 1 ∨ (2 ≤ (inAt L i).op ∧ (inAt L i).op ≤ 6) := by
    unfold isWr isRk at hw
    rw [Bool.or_eq_true, Bool.or_eq_true, Bool.and_eq_true, beq_iff_eq, beq_iff_eq, decide_eq_true_iff, decide_eq_true_iff] at hw
    omega
  unfold nx1; rw [if_neg (by omega), if_neg (by omega), if_neg (by omega)]

/-- A program's run and its unit's, between two instructions of the program. -/
structure Sim (P R K : Nat) (L : List In4) (ρ : List Sn → List Sn → Prop) (s t : St) : Prop where
  on : t.on = s.on
  at_ : s.on = true → t.at_ = cmpQ P R K L s.at_
  live : s.on = true → ∀ r, r < R → liveB L s.at_ r = true → hv (homS L R K) (homA L R K) t r = s.regs r
  outs : t.outs = s.outs
  stops : ρ t.stops s.stops
  kind : t.kind = s.kind
  val : t.val = s.val
end Go.Proofs.YtoepcplbpochpaaDoor

/-
  Plain mathematics: a step of the program that writes a register, and what comes of it.
-/
namespace Go.Proofs.YtoepcplbpochpaaDoor
open Go.RowKit

theorem cmpQ_next (P R K : Nat) (L : List In4) (i : Nat) : cmpQ P R K L (i + 1) = cmpQ P R K L i + (insC (homS L R K) (homA L R K) K (inAt L i)).length := by
  unfold cmpQ
  show (wTo (homS L R K) (homA L R K) K (liveB L 0) P L i ++ _).length = _
  rw [List.length_append]
theorem tgt_straight (st : Nat → Nat) {y : In4} (h : straight y) : tgt st y = y := by
  unfold straight at h
  unfold tgt; rw [if_neg (by omega), if_neg (by omega)]
/-- What comes of an instruction is done one by one: up to y. -/
theorem run_block {P R K : Nat} {L : List In4} {i : Nat} (hi : i < L.length) {t : St} (ton : t.on = true) (tat : t.at_ = cmpQ P R K L i) {l m : List In4} {y : In4} (he : insC (homS L R K) (homA L R K) K (inAt L i) = l ++ [y] ++ m) (hs : ∀ z ∈ l, straight z) :
    runSt (cmpC P R K L) (l.length + 1) t = stepSt (tgt (cmpS P R K L) y) (exec l t) := by
  have hlen : (l ++ [tgt (cmpS P R K L) y]).length = l.length + 1 := by rw [List.length_append]; rfl
  rw [← hlen]
  refine run_exec l (tgt (cmpS P R K L) y) t ton (fun j hj => ?_) hs
  rw [hlen] at hj
  have hj' : j < (insC (homS L R K) (homA L R K) K (inAt L i)).length := by rw [he, List.length_append, List.length_append]; simp; omega
  rw [tat, code_at hi hj', he]
  by_cases e : j < l.length
  · rw [inAt_left (by rw [List.length_append]; omega), inAt_left e, inAt_left e, tgt_straight _ (hs _ (inAt_mem e))]
  · obtain rfl : j = l.length := by omega
    have e1 : inAt (l ++ [y] ++ m) l.length = y := by
      rw [inAt_left (by rw [List.length_append]; simp)]
      have := inAt_right l [y] 0
      rw [Nat.add_zero] at this
      rw [this]; rfl
    have e2 : inAt (l ++ [tgt (cmpS P R K L) y]) l.length = tgt (cmpS P R K L) y := by
      have := inAt_right l [tgt (cmpS P R K L) y] 0
      rw [Nat.add_zero] at this
      rw [this]; rfl
    rw [e1, e2]
/-- A step that writes the register d. -/
theorem sim_wrote {P R V K : Nat} {L : List In4} {ρ : List Sn → List Sn → Prop} (hp : RightP P R V L) {s t t' : St} (h : Sim P R K L ρ s t) (hat : s.at_ < L.length) (hon : s.on = true) (hw : isWr (inAt L s.at_).op = true) {d : Nat} {v : Int} (hde : (inAt L s.at_).d = d) (hd : d < R)
    (hwr : Wrote (homS L R K) (homA L R K) R t t' (insC (homS L R K) (homA L R K) K (inAt L s.at_)).length d v) : Sim P R K L ρ (s.next.reg d v) t' := by
  refine ⟨hwr.on.trans h.on, fun _ => ?_, fun _ r hr hl => ?_, hwr.outs.trans h.outs, ?_, hwr.kind.trans h.kind, hwr.val.trans h.val⟩
  · show t'.at_ = cmpQ P R K L (s.at_ + 1)
    rw [hwr.at_, h.at_ hon, cmpQ_next]
  · have hl' : liveB L (s.at_ + 1) r = true := hl
    show _ = upd s.regs d v r
    by_cases e : r = d
    · subst e; rw [upd_same]; exact hwr.new
    · rw [upd_other _ _ e, hwr.hom r hr (write_apart hp hat hw hde hr hd e hl')]
      refine h.live hon r hr (live_back (right_inside hp) hat (.inl ?_) hl' ?_)
      · rw [wr_next hw]; omega
      · unfold wrB; rw [hw, Bool.true_and, hde, beq_eq_false_iff_ne]; omega
  · rw [hwr.stops]; exact h.stops
theorem exec_snoc (l : List In4) (y : In4) (t : St) : exec (l ++ [y]) t = stepSt y (exec l t) := by rw [exec_app]; rfl
/-- A Const. -/
theorem sim_const {P R V K : Nat} {L : List In4} {ρ : List Sn → List Sn → Prop} (hp : RightP P R V L) (hK : 2 ≤ K) {s t : St} (h : Sim P R K L ρ s t) (hat : s.at_ < L.length) (hon : s.on = true) (ho : (inAt L s.at_).op = 0) :
    ∃ n, n ≤ 4 ∧ 1 ≤ n ∧ Sim P R K L ρ (stepSt (inAt L s.at_) s) (runSt (cmpC P R K L) n t) := by
  have hx := hp.ins s.at_ hat
  have hd := hx.2.2.1 (.inl ho)
  obtain ⟨d, hde⟩ : ∃ d : Nat, (inAt L s.at_).d = d := ⟨(inAt L s.at_).d.toNat, by omega⟩
  have hc := clear_ok L R K hK
  have hI : insC (homS L R K) (homA L R K) K (inAt L s.at_) = [⟨0, goalR (homS L R K) (homA L R K) K d, (inAt L s.at_).a, 0⟩] ++ keepC (homS L R K) (homA L R K) K d := by
    unfold insC; rw [if_pos ho, hde, Int.toNat_natCast]
  have hwr := const_wrote hc (show d < R by omega) (inAt L s.at_).a t
  rw [← hI] at hwr
  have hstep : stepSt (inAt L s.at_) s = s.next.reg d (inAt L s.at_).a := by
    obtain ⟨x, hxe⟩ : ∃ x, x = inAt L s.at_ := ⟨_, rfl⟩
    rw [← hxe] at ho hde ⊢
    obtain ⟨op, dd, a, b⟩ := x
    simp only at ho hde
    subst ho hde
    show s.next.reg ((d : Int)).toNat a = _
    rw [Int.toNat_natCast]
  have hlen := insC_len (homS L R K) (homA L R K) K (inAt L s.at_)
  rw [hstep]
  refine ⟨(insC (homS L R K) (homA L R K) K (inAt L s.at_)).length, hlen, by rw [hI, List.length_append]; simp, ?_⟩
  refine sim_wrote hp h hat hon (by unfold isWr; rw [ho]; rfl) hde (by omega) ?_
  have hrun : runSt (cmpC P R K L) (insC (homS L R K) (homA L R K) K (inAt L s.at_)).length t = exec (insC (homS L R K) (homA L R K) K (inAt L s.at_)) t := by
    cases e : homS L R K d with
    | true =>
      have hk : keepC (homS L R K) (homA L R K) K d = [⟨16, homA L R K d, (K : Int) - 2, 0⟩] := by unfold keepC; rw [e, if_pos rfl]
      rw [hI, hk, exec_snoc]
      have := run_block hat (h.on.trans hon) (h.at_ hon) (l := [⟨0, goalR (homS L R K) (homA L R K) K d, (inAt L s.at_).a, 0⟩]) (y := ⟨16, homA L R K d, (K : Int) - 2, 0⟩) (m := []) (by rw [hI, hk, List.append_nil]) (fun z hz => by rw [List.mem_singleton] at hz; subst hz; exact .inl rfl)
      rw [tgt_straight _ (.inr (.inr (.inr (.inr (.inr rfl)))))] at this
      exact this
    | false =>
      have hk : keepC (homS L R K) (homA L R K) K d = [] := by unfold keepC; rw [e, if_neg (by decide)]
      rw [hI, hk, List.append_nil]
      have := run_block hat (h.on.trans hon) (h.at_ hon) (l := []) (y := ⟨0, goalR (homS L R K) (homA L R K) K d, (inAt L s.at_).a, 0⟩) (m := []) (by rw [hI, hk]; rfl) (fun z hz => by cases hz)
      rw [tgt_straight _ (.inl rfl)] at this
      exact this
  rw [hrun]; exact hwr
end Go.Proofs.YtoepcplbpochpaaDoor

/-
  Plain mathematics: a step of the program, and what comes of it.
-/
namespace Go.Proofs.YtoepcplbpochpaaDoor
open Go.RowKit

/-- A register that is read is live. -/
theorem sim_read {P R V K : Nat} {L : List In4} {ρ : List Sn → List Sn → Prop} (hp : RightP P R V L) {s t : St} (h : Sim P R K L ρ s t) (hat : s.at_ < L.length) (hon : s.on = true) {r : Nat} (hr : r < R) (hrd : rdB (inAt L s.at_) r = true) : hv (homS L R K) (homA L R K) t r = s.regs r :=
  h.live hon r hr (live_reads (right_inside hp) hat hrd)
/-- A step that writes no register, and goes on with j. -/
theorem sim_calm {P R V K : Nat} {L : List In4} {ρ ρ' : List Sn → List Sn → Prop} (hp : RightP P R V L) {s t s' t' : St} (h : Sim P R K L ρ s t) (hat : s.at_ < L.length) (hon : s.on = true) (hw : isWr (inAt L s.at_).op = false) (hn : Nx L s.at_ s'.at_)
    (hs : s'.on = true ∧ s'.regs = s.regs ∧ s'.kind = s.kind ∧ s'.val = s.val) (ht : t'.on = true ∧ t'.at_ = cmpQ P R K L s'.at_ ∧ t'.kind = t.kind ∧ t'.val = t.val) (hh : ∀ r, r < R → hv (homS L R K) (homA L R K) t' r = hv (homS L R K) (homA L R K) t r)
    (ho : t'.outs = s'.outs) (hst : ρ' t'.stops s'.stops) : Sim P R K L ρ' s' t' := by
  refine ⟨ht.1.trans hs.1.symm, fun _ => ht.2.1, fun _ r hr hl => ?_, ho, hst, ht.2.2.1.trans (h.kind.trans hs.2.2.1.symm), ht.2.2.2.trans (h.val.trans hs.2.2.2.symm)⟩
  rw [hh r hr, hs.2.1]
  exact h.live hon r hr (live_back (right_inside hp) hat hn hl (by unfold wrB; rw [hw]; rfl))
theorem sim_end {P R K : Nat} {L : List In4} {ρ : List Sn → List Sn → Prop} {s t : St} (h : s.on = false ∧ t.on = false) (ho : t.outs = s.outs) (hst : ρ t.stops s.stops) (hk : t.kind = s.kind) (hv' : t.val = s.val) : Sim P R K L ρ s t :=
  ⟨h.2.trans h.1.symm, fun e => (by rw [h.1] at e; cases e), fun e => (by rw [h.1] at e; cases e), ho, hst, hk, hv'⟩
/-- A Copy. -/
theorem sim_copy {P R V K : Nat} {L : List In4} {ρ : List Sn → List Sn → Prop} (hp : RightP P R V L) (hK : 2 ≤ K) {s t : St} (h : Sim P R K L ρ s t) (hat : s.at_ < L.length) (hon : s.on = true) (ho : (inAt L s.at_).op = 1) :
    ∃ n, n ≤ 4 ∧ 1 ≤ n ∧ Sim P R K L ρ (stepSt (inAt L s.at_) s) (runSt (cmpC P R K L) n t) := by
  have hx := hp.ins s.at_ hat
  have hd := hx.2.2.1 (.inr (.inl ho))
  have ha := hx.2.2.2.1 (.inl ho)
  obtain ⟨d, hde⟩ : ∃ d : Nat, (inAt L s.at_).d = d := ⟨(inAt L s.at_).d.toNat, by omega⟩
  obtain ⟨a, hae⟩ : ∃ a : Nat, (inAt L s.at_).a = a := ⟨(inAt L s.at_).a.toNat, by omega⟩
  have hc := clear_ok L R K hK
  have hI : insC (homS L R K) (homA L R K) K (inAt L s.at_) = copyC (homS L R K) (homA L R K) K d a := by
    unfold insC; rw [if_neg (by omega), if_pos ho, hde, hae, Int.toNat_natCast, Int.toNat_natCast]
  obtain ⟨hwr, l, y, hly, hl, hy⟩ := copy_wrote hc (d := d) (show a < R by omega) t
  have hva : hv (homS L R K) (homA L R K) t a = s.regs a := sim_read hp h hat hon (by omega) (by unfold rdB; rw [if_pos (.inl ho), hae, beq_self_eq_true])
  rw [hva, ← hI] at hwr
  have hstep : stepSt (inAt L s.at_) s = s.next.reg d (s.regs a) := by
    obtain ⟨x, hxe⟩ : ∃ x, x = inAt L s.at_ := ⟨_, rfl⟩
    rw [← hxe] at ho hde hae ⊢
    obtain ⟨op, dd, aa, b⟩ := x
    simp only at ho hde hae
    subst ho hde hae
    rw [step_copy, Int.toNat_natCast, Int.toNat_natCast]
  have hlen := insC_len (homS L R K) (homA L R K) K (inAt L s.at_)
  rw [hstep]
  refine ⟨(insC (homS L R K) (homA L R K) K (inAt L s.at_)).length, hlen, by rw [hI, hly, List.length_append]; simp, ?_⟩
  refine sim_wrote hp h hat hon (by unfold isWr; rw [ho]; rfl) hde (by omega) ?_
  have hrun : runSt (cmpC P R K L) (insC (homS L R K) (homA L R K) K (inAt L s.at_)).length t = exec (insC (homS L R K) (homA L R K) K (inAt L s.at_)) t := by
    have := run_block hat (h.on.trans hon) (h.at_ hon) (l := l) (y := y) (m := []) (by rw [hI, hly, List.append_nil]) hl
    rw [tgt_straight _ hy] at this
    rw [hI, hly, exec_snoc, List.length_append]; exact this
  rw [hrun]; exact hwr
/-- The arithmetic. -/
theorem sim_reck {P R V K : Nat} {L : List In4} {ρ : List Sn → List Sn → Prop} (hp : RightP P R V L) (hK : 2 ≤ K) {s t : St} (h : Sim P R K L ρ s t) (hat : s.at_ < L.length) (hon : s.on = true) (ho : 2 ≤ (inAt L s.at_).op ∧ (inAt L s.at_).op ≤ 6) :
    ∃ n, n ≤ 4 ∧ 1 ≤ n ∧ Sim P R K L ρ (stepSt (inAt L s.at_) s) (runSt (cmpC P R K L) n t) := by
  have hx := hp.ins s.at_ hat
  have hd := hx.2.2.1 (.inr (.inr ho))
  have ha := hx.2.2.2.1 (.inr (.inl ho))
  have hb := hx.2.2.2.2.1 ho
  obtain ⟨d, hde⟩ : ∃ d : Nat, (inAt L s.at_).d = d := ⟨(inAt L s.at_).d.toNat, by omega⟩
  obtain ⟨a, hae⟩ : ∃ a : Nat, (inAt L s.at_).a = a := ⟨(inAt L s.at_).a.toNat, by omega⟩
  obtain ⟨b, hbe⟩ : ∃ b : Nat, (inAt L s.at_).b = b := ⟨(inAt L s.at_).b.toNat, by omega⟩
  obtain ⟨op, hoe⟩ : ∃ op, op = (inAt L s.at_).op := ⟨_, rfl⟩
  have hc := clear_ok L R K hK
  have hrk : isRk (inAt L s.at_).op = true := by unfold isRk; rw [decide_eq_true ho.1, decide_eq_true ho.2]; rfl
  have hI : insC (homS L R K) (homA L R K) K (inAt L s.at_) = fetC (homS L R K) (homA L R K) K a 0 ++ fetC (homS L R K) (homA L R K) K b 1 ++ [⟨op, goalR (homS L R K) (homA L R K) K d, fetR (homS L R K) (homA L R K) K a 0, fetR (homS L R K) (homA L R K) K b 1⟩] ++ keepC (homS L R K) (homA L R K) K d := by
    unfold insC; rw [if_neg (by omega), if_neg (by omega), if_pos ho, hde, hae, hbe, Int.toNat_natCast, Int.toNat_natCast, Int.toNat_natCast, hoe]
  have hva : hv (homS L R K) (homA L R K) t a = s.regs a := sim_read hp h hat hon (by omega) (by unfold rdB; rw [if_neg (by omega), hrk, hae, beq_self_eq_true]; rfl)
  have hvb : hv (homS L R K) (homA L R K) t b = s.regs b := sim_read hp h hat hon (by omega) (by unfold rdB; rw [if_neg (by omega), hrk, hbe, beq_self_eq_true, Bool.or_true]; rfl)
  have hstep : stepSt (inAt L s.at_) s = s.next.reckon op d a b := by
    obtain ⟨x, hxe⟩ : ∃ x, x = inAt L s.at_ := ⟨_, rfl⟩
    rw [← hxe] at ho hde hae hbe hoe ⊢
    obtain ⟨o, dd, aa, bb⟩ := x
    simp only at ho hde hae hbe hoe
    subst hoe hde hae hbe
    rw [step_reck ho, Int.toNat_natCast, Int.toNat_natCast, Int.toNat_natCast]
  rw [← hoe] at ho
  have hlen := insC_len (homS L R K) (homA L R K) K (inAt L s.at_)
  have hfl := fetC_len (homS L R K) (homA L R K) K a 0
  have hfl' := fetC_len (homS L R K) (homA L R K) K b 1
  have hkl := keepC_len (homS L R K) (homA L R K) K d
  obtain ⟨_, _, hs1, _, _⟩ := fetch_calm hc (n := 0) (show a < R by omega) (by omega) t
  obtain ⟨_, _, hs2, _, _⟩ := fetch_calm hc (n := 1) (show b < R by omega) (by omega) t
  have hrun := run_block hat (h.on.trans hon) (h.at_ hon) hI (fun z hz => by rcases List.mem_append.1 hz with hz | hz; exact hs1 z hz; exact hs2 z hz)
  have htg : tgt (cmpS P R K L) ⟨op, goalR (homS L R K) (homA L R K) K d, fetR (homS L R K) (homA L R K) K a 0, fetR (homS L R K) (homA L R K) K b 1⟩ = ⟨op, goalR (homS L R K) (homA L R K) K d, fetR (homS L R K) (homA L R K) K a 0, fetR (homS L R K) (homA L R K) K b 1⟩ := by
    unfold tgt; rw [if_neg (show op ≠ 7 by omega), if_neg (show op ≠ 8 by omega)]
  rw [htg] at hrun
  by_cases hneg : reachE op (s.regs a) (s.regs b) < 0
  · have e := reck_trap hc (d := d) (show a < R by omega) (show b < R by omega) ho t (by rw [hva, hvb]; exact hneg)
    obtain ⟨c1, _, _⟩ := fetC_sec hc (show a < R by omega) (show b < R by omega) t
    refine ⟨(fetC (homS L R K) (homA L R K) K a 0 ++ fetC (homS L R K) (homA L R K) K b 1).length + 1, ?_, ?_, ?_⟩
    rotate_left 2
    · rw [hrun, e, hstep]
      have e2 : s.next.reckon op d a b = s.next.ended 1 0 := by unfold St.reckon; exact if_pos hneg
      rw [e2]
      exact sim_end ⟨rfl, rfl⟩ (c1.outs.trans h.outs) (by show ρ (exec _ t).stops s.stops; rw [c1.stops]; exact h.stops) rfl rfl
    · rw [List.length_append]; omega
    · omega
  · have hwr := reck_wrote hc (show d < R by omega) (show a < R by omega) (show b < R by omega) ho t (by rw [hva, hvb]; omega)
    rw [hva, hvb] at hwr
    have hL' : (insC (homS L R K) (homA L R K) K (inAt L s.at_)).length = (fetC (homS L R K) (homA L R K) K a 0).length + (fetC (homS L R K) (homA L R K) K b 1).length + (1 + (keepC (homS L R K) (homA L R K) K d).length) := by
      rw [hI, List.length_append, List.length_append, List.length_append]; show _ + 1 + _ = _; omega
    rw [← hL'] at hwr
    refine ⟨(insC (homS L R K) (homA L R K) K (inAt L s.at_)).length, hlen, by omega, ?_⟩
    have e2 : s.next.reckon op d a b = s.next.reg d (reachE op (s.regs a) (s.regs b)) := by unfold St.reckon; exact if_neg hneg
    rw [hstep, e2]
    refine sim_wrote hp h hat hon (by unfold isWr; rw [hrk, Bool.or_true]) hde (by omega) ?_
    have hrun2 : runSt (cmpC P R K L) (insC (homS L R K) (homA L R K) K (inAt L s.at_)).length t = exec (keepC (homS L R K) (homA L R K) K d) (stepSt ⟨op, goalR (homS L R K) (homA L R K) K d, fetR (homS L R K) (homA L R K) K a 0, fetR (homS L R K) (homA L R K) K b 1⟩ (exec (fetC (homS L R K) (homA L R K) K a 0 ++ fetC (homS L R K) (homA L R K) K b 1) t)) := by
      cases e : homS L R K d with
      | false =>
        have hk : keepC (homS L R K) (homA L R K) K d = [] := by unfold keepC; rw [e, if_neg (by decide)]
        rw [hL', hk]
        show _ = stepSt _ _
        rw [← hrun, List.length_append]; rfl
      | true =>
        have hk : keepC (homS L R K) (homA L R K) K d = [⟨16, homA L R K d, (K : Int) - 2, 0⟩] := by unfold keepC; rw [e, if_pos rfl]
        have hk1 : (keepC (homS L R K) (homA L R K) K d).length = 1 := by rw [hk]; rfl
        obtain ⟨l, hle⟩ : ∃ l, l = fetC (homS L R K) (homA L R K) K a 0 ++ fetC (homS L R K) (homA L R K) K b 1 := ⟨_, rfl⟩
        have hll : l.length = (fetC (homS L R K) (homA L R K) K a 0).length + (fetC (homS L R K) (homA L R K) K b 1).length := by rw [hle, List.length_append]
        rw [← hle] at hrun hwr hI ⊢
        rw [hL', hk1, show (fetC (homS L R K) (homA L R K) K a 0).length + (fetC (homS L R K) (homA L R K) K b 1).length + (1 + 1) = (l.length + 1) + 1 by omega, run_add, hrun, hk]
        obtain ⟨t1, ht1⟩ : ∃ t1, t1 = stepSt ⟨op, goalR (homS L R K) (homA L R K) K d, fetR (homS L R K) (homA L R K) K a 0, fetR (homS L R K) (homA L R K) K b 1⟩ (exec l t) := ⟨_, rfl⟩
        rw [← ht1] at hwr ⊢
        rw [hk] at hwr
        have hwon : t1.on = true := (hwr.on.trans h.on).trans hon
        have hwat : t1.at_ + 1 = t.at_ + (l.length + 2) := by
          have h1 : (stepSt ⟨16, homA L R K d, (K : Int) - 2, 0⟩ t1).at_ = t.at_ + (insC (homS L R K) (homA L R K) K (inAt L s.at_)).length := hwr.at_
          rw [step_store] at h1
          have h2 : t1.at_ + 1 = t.at_ + (insC (homS L R K) (homA L R K) K (inAt L s.at_)).length := h1
          omega
        rw [run_on (by omega) hwon]
        show stepSt (inAt (cmpC P R K L) t1.at_) t1 = stepSt ⟨16, homA L R K d, (K : Int) - 2, 0⟩ t1
        rw [show t1.at_ = cmpQ P R K L s.at_ + (l.length + 1) by have := h.at_ hon; omega, code_at hat (by omega), hI, hk]
        have : inAt (l ++ [⟨op, goalR (homS L R K) (homA L R K) K d, fetR (homS L R K) (homA L R K) K a 0, fetR (homS L R K) (homA L R K) K b 1⟩] ++ [⟨16, homA L R K d, (K : Int) - 2, 0⟩]) (l.length + 1) = ⟨16, homA L R K d, (K : Int) - 2, 0⟩ := by
          have := inAt_right (l ++ [⟨op, goalR (homS L R K) (homA L R K) K d, fetR (homS L R K) (homA L R K) K a 0, fetR (homS L R K) (homA L R K) K b 1⟩]) [⟨16, homA L R K d, (K : Int) - 2, 0⟩] 0
          rw [List.length_append] at this
          exact this
        rw [this, tgt_straight _ (.inr (.inr (.inr (.inr (.inr rfl)))))]
    rw [hrun2]; exact hwr
end Go.Proofs.YtoepcplbpochpaaDoor

/-
  Plain mathematics: every step of the program, and what comes of it.
-/
namespace Go.Proofs.YtoepcplbpochpaaDoor
open Go.RowKit

theorem hv_eq {hs : Nat → Bool} {ha : Nat → Nat} {t t' : St} (h1 : t'.regs = t.regs) (h2 : t'.vars = t.vars) (r : Nat) : hv hs ha t' r = hv hs ha t r := by unfold hv; rw [h1, h2]
theorem cmpS_at {P R K : Nat} {L : List In4} {i : Nat} (h : i < L.length) : cmpS P R K L i = cmpQ P R K L i := (cmp_pos P R K L).st i h
/-- If, Out, Return: what is read is fetched first. -/
theorem sim_look {P R V K : Nat} {L : List In4} {ρ : List Sn → List Sn → Prop} (hp : RightP P R V L) (hK : 2 ≤ K) {s t : St} (h : Sim P R K L ρ s t) (hat : s.at_ < L.length) (hon : s.on = true) (ho : (inAt L s.at_).op = 8 ∨ (inAt L s.at_).op = 9 ∨ (inAt L s.at_).op = 10) :
    ∃ n, n ≤ 4 ∧ 1 ≤ n ∧ Sim P R K L ρ (stepSt (inAt L s.at_) s) (runSt (cmpC P R K L) n t) := by
  have hx := hp.ins s.at_ hat
  have ha := hx.2.2.2.1 (.inr (.inr (by rcases ho with h | h | h; exact .inl h; exact .inr (.inl h); exact .inr (.inr (.inl h)))))
  have hb := hx.2.2.2.2.2.2.2.1
  obtain ⟨a, hae⟩ : ∃ a : Nat, (inAt L s.at_).a = a := ⟨(inAt L s.at_).a.toNat, by omega⟩
  have hc := clear_ok L R K hK
  have hva : hv (homS L R K) (homA L R K) t a = s.regs a := sim_read hp h hat hon (by omega) (by unfold rdB; rw [if_pos (.inr ho), hae, beq_self_eq_true])
  obtain ⟨c1, c2, c3, _, _⟩ := fetch_calm hc (n := 0) (show a < R by omega) (by omega) t
  rw [hva] at c2
  have hfl := fetC_len (homS L R K) (homA L R K) K a 0
  have hw : isWr (inAt L s.at_).op = false := by
    unfold isWr isRk
    rcases ho with h | h | h <;> (rw [h]; rfl)
  obtain ⟨t1, ht1⟩ : ∃ t1, t1 = exec (fetC (homS L R K) (homA L R K) K a 0) t := ⟨_, rfl⟩
  rw [← ht1] at c1 c2
  have hton : t1.on = true := (c1.on.trans h.on).trans hon
  have key : ∀ (y : In4), insC (homS L R K) (homA L R K) K (inAt L s.at_) = fetC (homS L R K) (homA L R K) K a 0 ++ [y] → Sim P R K L ρ (stepSt (inAt L s.at_) s) (stepSt (tgt (cmpS P R K L) y) t1) → ∃ n, n ≤ 4 ∧ 1 ≤ n ∧ Sim P R K L ρ (stepSt (inAt L s.at_) s) (runSt (cmpC P R K L) n t) := fun y hy hS => by
    have hrun := run_block hat (h.on.trans hon) (h.at_ hon) (l := fetC (homS L R K) (homA L R K) K a 0) (y := y) (m := []) (by rw [hy, List.append_nil]) c3
    rw [← ht1] at hrun
    exact ⟨(fetC (homS L R K) (homA L R K) K a 0).length + 1, by omega, by omega, by rw [hrun]; exact hS⟩
  have hq : t1.at_ + 1 = cmpQ P R K L s.at_ + ((fetC (homS L R K) (homA L R K) K a 0).length + 1) := by rw [c1.at_, h.at_ hon]; omega
  obtain ⟨x, hxe⟩ : ∃ x, x = inAt L s.at_ := ⟨_, rfl⟩
  have hnx : ∀ y : In4, insC (homS L R K) (homA L R K) K (inAt L s.at_) = fetC (homS L R K) (homA L R K) K a 0 ++ [y] → cmpQ P R K L (s.at_ + 1) = t1.at_ + 1 := fun y hy => by
    rw [cmpQ_next, hy, List.length_append, hq]; rfl
  rcases ho with ho | ho | ho
  · obtain ⟨b, hbe⟩ : ∃ b : Nat, (inAt L s.at_).b = b := ⟨(inAt L s.at_).b.toNat, by have := hb ho; omega⟩
    have hbl : b < L.length := by have := hb ho; omega
    have hI : insC (homS L R K) (homA L R K) K (inAt L s.at_) = fetC (homS L R K) (homA L R K) K a 0 ++ [⟨8, 0, fetR (homS L R K) (homA L R K) K a 0, b⟩] := by
      unfold insC; rw [if_neg (by omega), if_neg (by omega), if_neg (by omega), if_pos ho, hae, hbe, Int.toNat_natCast]
    refine key _ hI ?_
    have etg : tgt (cmpS P R K L) ⟨8, 0, fetR (homS L R K) (homA L R K) K a 0, b⟩ = ⟨8, 0, fetR (homS L R K) (homA L R K) K a 0, cmpQ P R K L b⟩ := by
      unfold tgt; rw [if_neg (show (8 : Int) ≠ 7 by decide), if_pos rfl]; simp only; rw [Int.toNat_natCast, cmpS_at hbl]
    have e1 : stepSt (tgt (cmpS P R K L) ⟨8, 0, fetR (homS L R K) (homA L R K) K a 0, b⟩) t1 = if s.regs a = 0 then t1.next else t1.next.goto (cmpQ P R K L b) := by
      rw [etg]
      show (if t1.regs (fetR (homS L R K) (homA L R K) K a 0).toNat = 0 then t1.next else t1.next.goto ((cmpQ P R K L b : Int)).toNat) = _
      rw [c2, Int.toNat_natCast]
    have e2 : stepSt (inAt L s.at_) s = if s.regs a = 0 then s.next else s.next.goto b := by
      rw [← hxe] at ho hae hbe ⊢
      obtain ⟨op, dd, aa, bb⟩ := x
      simp only at ho hae hbe
      subst ho hae hbe
      show (if s.regs ((a : Int)).toNat = 0 then s.next else s.next.goto ((b : Int)).toNat) = _
      rw [Int.toNat_natCast, Int.toNat_natCast]
    rw [e1, e2]
    by_cases e0 : s.regs a = 0
    · rw [if_pos e0, if_pos e0]
      exact sim_calm hp h hat hon hw (.inr (by show ((s.at_ + 1 : Nat) : Int) = _; unfold nx2; rw [if_pos ho]; omega)) ⟨hon, rfl, rfl, rfl⟩ ⟨hton, (hnx _ hI).symm, c1.kind, c1.val⟩ (fun r hr => (hv_eq rfl rfl r).trans (c1.hom r hr)) (c1.outs.trans h.outs) (by show ρ t1.stops s.stops; rw [c1.stops]; exact h.stops)
    · rw [if_neg e0, if_neg e0]
      exact sim_calm hp h hat hon hw (.inl (by show ((b : Nat) : Int) = _; unfold nx1; rw [if_neg (by omega), if_pos ho, hbe])) ⟨hon, rfl, rfl, rfl⟩ ⟨hton, rfl, c1.kind, c1.val⟩ (fun r hr => (hv_eq rfl rfl r).trans (c1.hom r hr)) (c1.outs.trans h.outs) (by show ρ t1.stops s.stops; rw [c1.stops]; exact h.stops)
  · have hI : insC (homS L R K) (homA L R K) K (inAt L s.at_) = fetC (homS L R K) (homA L R K) K a 0 ++ [⟨9, 0, fetR (homS L R K) (homA L R K) K a 0, 0⟩] := by
      unfold insC; rw [if_neg (by omega), if_neg (by omega), if_neg (by omega), if_neg (by omega), if_pos (.inl ho), hae, ho, Int.toNat_natCast]
    refine key _ hI ?_
    have e1 : stepSt (tgt (cmpS P R K L) ⟨9, 0, fetR (homS L R K) (homA L R K) K a 0, 0⟩) t1 = t1.next.out (s.regs a) := by
      rw [tgt_straight _ (.inr (.inr (.inl rfl)))]
      show t1.next.out (t1.regs (fetR (homS L R K) (homA L R K) K a 0).toNat) = _
      rw [c2]
    have e2 : stepSt (inAt L s.at_) s = s.next.out (s.regs a) := by
      rw [← hxe] at ho hae ⊢
      obtain ⟨op, dd, aa, bb⟩ := x
      simp only at ho hae
      subst ho hae
      show s.next.out (s.regs ((a : Int)).toNat) = _
      rw [Int.toNat_natCast]
    rw [e1, e2]
    exact sim_calm hp h hat hon hw (.inl (by show ((s.at_ + 1 : Nat) : Int) = _; unfold nx1; rw [if_neg (by omega), if_neg (by omega), if_neg (by omega)]; omega)) ⟨hon, rfl, rfl, rfl⟩ ⟨hton, (hnx _ hI).symm, c1.kind, c1.val⟩ (fun r hr => (hv_eq rfl rfl r).trans (c1.hom r hr)) (by show t1.outs ++ [s.regs a] = s.outs ++ [s.regs a]; rw [c1.outs, h.outs]) (by show ρ t1.stops s.stops; rw [c1.stops]; exact h.stops)
  · have hI : insC (homS L R K) (homA L R K) K (inAt L s.at_) = fetC (homS L R K) (homA L R K) K a 0 ++ [⟨10, 0, fetR (homS L R K) (homA L R K) K a 0, 0⟩] := by
      unfold insC; rw [if_neg (by omega), if_neg (by omega), if_neg (by omega), if_neg (by omega), if_pos (.inr ho), hae, ho, Int.toNat_natCast]
    refine key _ hI ?_
    have e1 : stepSt (tgt (cmpS P R K L) ⟨10, 0, fetR (homS L R K) (homA L R K) K a 0, 0⟩) t1 = t1.next.ended 0 (s.regs a) := by
      have : tgt (cmpS P R K L) ⟨10, 0, fetR (homS L R K) (homA L R K) K a 0, 0⟩ = ⟨10, 0, fetR (homS L R K) (homA L R K) K a 0, 0⟩ := by unfold tgt; rw [if_neg (show (10 : Int) ≠ 7 by decide), if_neg (show (10 : Int) ≠ 8 by decide)]
      rw [this]
      show t1.next.ended 0 (t1.regs (fetR (homS L R K) (homA L R K) K a 0).toNat) = _
      rw [c2]
    have e2 : stepSt (inAt L s.at_) s = s.next.ended 0 (s.regs a) := by
      rw [← hxe] at ho hae ⊢
      obtain ⟨op, dd, aa, bb⟩ := x
      simp only at ho hae
      subst ho hae
      show s.next.ended 0 (s.regs ((a : Int)).toNat) = _
      rw [Int.toNat_natCast]
    rw [e1, e2]
    exact sim_end ⟨rfl, rfl⟩ (c1.outs.trans h.outs) (by show ρ t1.stops s.stops; rw [c1.stops]; exact h.stops) rfl rfl
/-- Every step. -/
theorem sim_step {P R V K : Nat} {L : List In4} {ρ ρ' : List Sn → List Sn → Prop} (hp : RightP P R V L) (hK : 2 ≤ K) {s t : St} (h : Sim P R K L ρ s t) (hat : s.at_ < L.length) (hon : s.on = true)
    (hne : (inAt L s.at_).op ≠ 11 → ρ' = ρ) (hρ : (inAt L s.at_).op = 11 → ρ' (t.stops ++ [⟨(inAt L s.at_).a, t.tell 0, t.tell 1, t.tell 2, t.tell 3⟩]) (s.stops ++ [⟨(inAt L s.at_).a, s.tell 0, s.tell 1, s.tell 2, s.tell 3⟩])) :
    ∃ n, n ≤ 4 ∧ ((inAt L s.at_).op ≤ 11 → 1 ≤ n) ∧ Sim P R K L ρ' (stepSt (inAt L s.at_) s) (runSt (cmpC P R K L) n t) := by
  have weak : (∃ n, n ≤ 4 ∧ 1 ≤ n ∧ Sim P R K L ρ' (stepSt (inAt L s.at_) s) (runSt (cmpC P R K L) n t)) → ∃ n, n ≤ 4 ∧ ((inAt L s.at_).op ≤ 11 → 1 ≤ n) ∧ Sim P R K L ρ' (stepSt (inAt L s.at_) s) (runSt (cmpC P R K L) n t) := fun ⟨n, h1, h2, h3⟩ => ⟨n, h1, fun _ => h2, h3⟩
  have hx := hp.ins s.at_ hat
  have hlow := hp.low s.at_ hat
  have h0 := hx.1
  have ton := h.on.trans hon
  obtain ⟨x, hxe⟩ : ∃ x, x = inAt L s.at_ := ⟨_, rfl⟩
  have hcase : (inAt L s.at_).op = 0 ∨ (inAt L s.at_).op = 1 ∨ (2 ≤ (inAt L s.at_).op ∧ (inAt L s.at_).op ≤ 6) ∨ (inAt L s.at_).op = 7 ∨ ((inAt L s.at_).op = 8 ∨ (inAt L s.at_).op = 9 ∨ (inAt L s.at_).op = 10) ∨ (inAt L s.at_).op = 11 ∨ (12 ≤ (inAt L s.at_).op ∧ (inAt L s.at_).op ≤ 14) := by omega
  rcases hcase with ho | ho | ho | ho | ho | ho | ho
  · have e := hne (by omega); subst e; exact weak (sim_const hp hK h hat hon ho)
  · have e := hne (by omega); subst e; exact weak (sim_copy hp hK h hat hon ho)
  · have e := hne (by omega); subst e; exact weak (sim_reck hp hK h hat hon ho)
  · have e := hne (by omega)
    subst e
    have ha := hx.2.2.2.2.2.2.1 ho
    obtain ⟨a, hae⟩ : ∃ a : Nat, (inAt L s.at_).a = a := ⟨(inAt L s.at_).a.toNat, by omega⟩
    have hal : a < L.length := by omega
    have hI : insC (homS L R K) (homA L R K) K (inAt L s.at_) = [] ++ [⟨7, 0, a, 0⟩] ++ [] := by
      unfold insC; rw [if_neg (by omega), if_neg (by omega), if_neg (by omega), if_neg (by omega), if_neg (by omega), if_pos (.inl ho), ho, hae]; rfl
    have hrun := run_block hat ton (h.at_ hon) hI (fun z hz => by cases hz)
    have etg : tgt (cmpS P R K L) ⟨7, 0, a, 0⟩ = ⟨7, 0, cmpQ P R K L a, 0⟩ := by
      unfold tgt; rw [if_pos rfl]; simp only; rw [Int.toNat_natCast, cmpS_at hal]
    have e1 : runSt (cmpC P R K L) 1 t = t.next.goto (cmpQ P R K L a) := by
      rw [etg] at hrun
      refine Eq.trans hrun ?_
      show t.next.goto ((cmpQ P R K L a : Int)).toNat = _
      rw [Int.toNat_natCast]
    have e2 : stepSt (inAt L s.at_) s = s.next.goto a := by
      rw [← hxe] at ho hae ⊢
      obtain ⟨op, dd, aa, bb⟩ := x
      simp only at ho hae
      subst ho hae
      show s.next.goto ((a : Int)).toNat = _
      rw [Int.toNat_natCast]
    refine ⟨1, by omega, fun _ => by omega, ?_⟩
    rw [e1, e2]
    exact sim_calm hp h hat hon (by unfold isWr isRk; rw [ho]; rfl) (.inl (by show ((a : Nat) : Int) = _; unfold nx1; rw [if_pos ho, hae])) ⟨hon, rfl, rfl, rfl⟩ ⟨ton, rfl, rfl, rfl⟩ (fun r _ => hv_eq rfl rfl r) h.outs h.stops
  · have e := hne (by omega); subst e; exact weak (sim_look hp hK h hat hon ho)
  · have hI : insC (homS L R K) (homA L R K) K (inAt L s.at_) = [] ++ [⟨11, 0, (inAt L s.at_).a, 0⟩] ++ [] := by
      unfold insC; rw [if_neg (by omega), if_neg (by omega), if_neg (by omega), if_neg (by omega), if_neg (by omega), if_pos (.inr ho), ho]; rfl
    have hrun := run_block hat ton (h.at_ hon) hI (fun z hz => by cases hz)
    have e1 : runSt (cmpC P R K L) 1 t = (t.see (inAt L s.at_).a).next := by
      rw [tgt_straight _ (.inr (.inr (.inr (.inl rfl))))] at hrun
      exact Eq.trans hrun rfl
    have e2 : stepSt (inAt L s.at_) s = (s.see (inAt L s.at_).a).next := by
      rw [← hxe] at ho ⊢
      obtain ⟨op, dd, aa, bb⟩ := x
      simp only at ho
      subst ho
      rfl
    refine ⟨1, by omega, fun _ => by omega, ?_⟩
    rw [e1, e2]
    refine sim_calm hp h hat hon (by unfold isWr isRk; rw [ho]; rfl) (.inl (by show ((s.at_ + 1 : Nat) : Int) = _; unfold nx1; rw [if_neg (by omega), if_neg (by omega), if_neg (by omega)]; omega)) ⟨hon, rfl, rfl, rfl⟩ ⟨ton, ?_, rfl, rfl⟩ (fun r _ => hv_eq rfl rfl r) h.outs ?_
    · show t.at_ + 1 = cmpQ P R K L (s.at_ + 1)
      rw [cmpQ_next, hI, h.at_ hon]; rfl
    · exact hρ ho
  · have e := hne (by omega)
    subst e
    have hI : insC (homS L R K) (homA L R K) K (inAt L s.at_) = [] := by
      unfold insC; rw [if_neg (by omega), if_neg (by omega), if_neg (by omega), if_neg (by omega), if_neg (by omega), if_neg (by omega)]
    have e2 : ∃ f, stepSt (inAt L s.at_) s = { s.next with vars := f } := by
      rw [← hxe] at ho ⊢
      obtain ⟨op, dd, aa, bb⟩ := x
      simp only at ho
      rcases (show op = 12 ∨ op = 13 ∨ op = 14 by omega) with e | e | e
      · subst e; exact ⟨_, rfl⟩
      · subst e; exact ⟨_, rfl⟩
      · subst e; exact ⟨_, rfl⟩
    obtain ⟨f, e2⟩ := e2
    refine ⟨0, by omega, fun h => by omega, ?_⟩
    rw [e2]
    refine sim_calm hp h hat hon (by unfold isWr isRk; rw [show ((inAt L s.at_).op == 0) = false by rw [beq_eq_false_iff_ne]; omega, show ((inAt L s.at_).op == 1) = false by rw [beq_eq_false_iff_ne]; omega, show decide ((inAt L s.at_).op ≤ 6) = false by rw [decide_eq_false_iff_not]; omega]; simp) (.inl (by show ((s.at_ + 1 : Nat) : Int) = _; unfold nx1; rw [if_neg (by omega), if_neg (by omega), if_neg (by omega)]; omega)) ⟨hon, rfl, rfl, rfl⟩ ⟨ton, ?_, rfl, rfl⟩ (fun r _ => rfl) h.outs h.stops
    show t.at_ = cmpQ P R K L (s.at_ + 1)
    rw [cmpQ_next, hI, h.at_ hon]; rfl
end Go.Proofs.YtoepcplbpochpaaDoor
