/-
  Plain mathematics: the power, Euclid's way and the division, as the known programs go.
-/
import Derived.Test.YtoepcplbpochpabDoorPart19
import Derived.Test.YtoepcplbpochpabDoorPart2
import Derived.Deep.RegionHeld3
import Derived.Handy
import Derived.Test.YtoepcplbpochpabDoorPart15
import Derived.Test.YtoepcplbpochpabDoorPart1

namespace Go.Proofs.YtoepcplbpochpabDoor
open Go.RowKit

theorem sub_one {n : Nat} (hn : n < 65535) : ((n : Int) + 1 + 65536 - 1) % 65536 = n := by omega
/-- Once round the power. -/
theorem pow_round (n : Nat) (a : Int) (regs vars : Nat → Int) (steps : Nat) (outs : List Int) (stops : List Sn) (S : Int) (h0 : regs 0 = a) (h1 : regs 1 = (n : Int) + 1) (hn : n < 65535) (h2 : regs 2 = S) (h3 : regs 3 = 1) :
    ∃ regs' vars' x, runSt knP2 7 ⟨2, regs, vars, true, 2, 0, steps, outs, stops, progEnv⟩ = ⟨2, regs', vars', true, 2, 0, steps + 7, outs, stops ++ [x], progEnv⟩ ∧ regs' 0 = a ∧ regs' 1 = n ∧ regs' 2 = S * a % 65536 ∧ regs' 3 = 1 ∧ x.v0 = S * a % 65536 := by
  obtain ⟨q, hq⟩ : ∃ q, q = S * a % 65536 := ⟨_, rfl⟩
  rw [← hq]
  refine ⟨upd (upd regs 2 q) 1 n, upd (upd vars 0 q) 1 (regs 1), ⟨1, q, regs 1, vars 2, vars 3⟩, ?_, h0, rfl, rfl, h3, rfl⟩
  refine go_one rfl (s' := ⟨4, regs, vars, true, 2, 0, steps + 1, outs, stops, progEnv⟩) ?_ ?_
  · show (if regs 1 = 0 then _ else _) = _
    rw [if_neg (by omega)]; rfl
  refine go_one rfl (s' := ⟨5, upd regs 2 q, vars, true, 2, 0, steps + 2, outs, stops, progEnv⟩) ?_ ?_
  · have e2 : (⟨4, regs, vars, true, 2, 0, steps + 1, outs, stops, progEnv⟩ : St).regs 2 = S := h2
    have e0 : (⟨4, regs, vars, true, 2, 0, steps + 1, outs, stops, progEnv⟩ : St).regs 0 = a := h0
    have := reck_yes (op := 4) (by decide) 2 2 0 (⟨4, regs, vars, true, 2, 0, steps + 1, outs, stops, progEnv⟩ : St) (by rw [reach4, e2, e0]; exact Int.emod_nonneg _ (by decide))
    rw [reach4, e2, e0, ← hq] at this
    exact this
  refine go_one rfl (s' := ⟨6, upd regs 2 q, upd vars 0 q, true, 2, 0, steps + 3, outs, stops, progEnv⟩) rfl ?_
  refine go_one rfl (s' := ⟨7, upd regs 2 q, upd (upd vars 0 q) 1 (regs 1), true, 2, 0, steps + 4, outs, stops, progEnv⟩) rfl ?_
  refine go_one rfl (s' := ⟨8, upd regs 2 q, upd (upd vars 0 q) 1 (regs 1), true, 2, 0, steps + 5, outs, stops ++ [⟨1, q, regs 1, vars 2, vars 3⟩], progEnv⟩) rfl ?_
  refine go_one rfl (s' := ⟨9, upd (upd regs 2 q) 1 n, upd (upd vars 0 q) 1 (regs 1), true, 2, 0, steps + 6, outs, stops ++ [⟨1, q, regs 1, vars 2, vars 3⟩], progEnv⟩) ?_ ?_
  · have e1 : (⟨8, upd regs 2 q, upd (upd vars 0 q) 1 (regs 1), true, 2, 0, steps + 5, outs, stops ++ [⟨1, q, regs 1, vars 2, vars 3⟩], progEnv⟩ : St).regs 1 = (n : Int) + 1 := h1
    have e3 : (⟨8, upd regs 2 q, upd (upd vars 0 q) 1 (regs 1), true, 2, 0, steps + 5, outs, stops ++ [⟨1, q, regs 1, vars 2, vars 3⟩], progEnv⟩ : St).regs 3 = 1 := h3
    have := reck_yes (op := 3) (by decide) 1 1 3 (⟨8, upd regs 2 q, upd (upd vars 0 q) 1 (regs 1), true, 2, 0, steps + 5, outs, stops ++ [⟨1, q, regs 1, vars 2, vars 3⟩], progEnv⟩ : St) (by rw [reach3]; exact Int.emod_nonneg _ (by decide))
    rw [reach3, e1, e3, sub_one hn] at this
    exact this
  exact go_one rfl rfl rfl
/-- So often times a. -/
def powF (a : Int) : Nat → Int → Int
  | 0, S => S
  | n + 1, S => powF a n (S * a % 65536)
theorem powF_succ (a : Int) : ∀ (n : Nat) (S : Int), powF a (n + 1) S = powF a n S * a % 65536
  | 0, _ => rfl
  | n + 1, S => powF_succ a n (S * a % 65536)
theorem last_of {stops t : List Sn} {x : Sn} {n : Nat} (ht : ∃ o, t = stops ++ [x] ++ o) (hl : t.length = stops.length + 1 + n) (h0 : n = 0) : t[t.length - 1]? = some x := by
  obtain ⟨o, ho⟩ := ht
  have hz : o = [] := List.eq_nil_of_length_eq_zero (by rw [ho, List.length_append, List.length_append] at hl; simp at hl; omega)
  rw [ho, hz, List.append_nil, List.length_append, List.getElem?_append_right (by simp)]; simp
/-- The power, from the head of its loop on. -/
theorem pow_all (a : Int) : ∀ (n : Nat) (regs vars : Nat → Int) (steps : Nat) (outs : List Int) (stops : List Sn) (S : Int), regs 0 = a → regs 1 = (n : Int) → n ≤ 65535 → regs 2 = S → regs 3 = 1 →
    ∃ t : St, runSt knP2 (7 * n + 2) ⟨2, regs, vars, true, 2, 0, steps, outs, stops, progEnv⟩ = t ∧ t.on = false ∧ t.kind = 0 ∧ t.val = powF a n S ∧ t.stops.length = stops.length + n ∧ (0 < n → ∃ x, t.stops[t.stops.length - 1]? = some x ∧ x.v0 = t.val)
  | 0, regs, vars, steps, outs, stops, S, h0, h1, hn, h2, h3 => by
    refine ⟨⟨4, regs, vars, false, 0, S, steps + 2, outs, stops, progEnv⟩, ?_, rfl, rfl, rfl, rfl, fun h => absurd h (Nat.lt_irrefl _)⟩
    refine go_one rfl (s' := ⟨3, regs, vars, true, 2, 0, steps + 1, outs, stops, progEnv⟩) ?_ ?_
    · show (if regs 1 = 0 then _ else _) = _
      rw [if_pos (show regs 1 = 0 from h1)]; rfl
    · refine go_one rfl (s' := ⟨4, regs, vars, false, 0, S, steps + 2, outs, stops, progEnv⟩) ?_ rfl
      show (⟨4, regs, vars, false, 0, regs 2, steps + 2, outs, stops, progEnv⟩ : St) = _
      rw [h2]
  | n + 1, regs, vars, steps, outs, stops, S, h0, h1, hn, h2, h3 => by
    obtain ⟨regs', vars', x, e, e0, e1, e2, e3, ex⟩ := pow_round n a regs vars steps outs stops S h0 (by rw [h1]; omega) (by omega) h2 h3
    obtain ⟨t, ht, a1, a2, a3, a4, a5⟩ := pow_all a n regs' vars' (steps + 7) outs (stops ++ [x]) (S * a % 65536) e0 e1 (by omega) e2 e3
    refine ⟨t, ?_, a1, a2, a3, ?_, fun _ => ?_⟩
    · rw [show 7 * (n + 1) + 2 = 7 + (7 * n + 2) by omega, run_add, e]; exact ht
    · rw [a4, List.length_append]; simp; omega
    · by_cases h : 0 < n
      · exact a5 h
      · have hn0 : n = 0 := by omega
        obtain ⟨_, o, ho⟩ := run_pre knP2 (7 * n + 2) ⟨2, regs', vars', true, 2, 0, steps + 7, outs, stops ++ [x], progEnv⟩
        rw [ht] at ho
        refine ⟨x, last_of ⟨o, ho⟩ (by rw [a4, List.length_append]; rfl) hn0, ?_⟩
        rw [ex, a3, hn0]; rfl
/-- Euclid's way, with fuel: what it comes to, and in how many rounds. -/
def eucG : Nat → Nat → Nat → Nat
  | 0, a, _ => a
  | f + 1, a, b => if b = 0 then a else eucG f b (a % b)
def eucN : Nat → Nat → Nat → Nat
  | 0, _, _ => 0
  | f + 1, a, b => if b = 0 then 0 else eucN f b (a % b) + 1
theorem euc_few : ∀ (k f a b : Nat), b < 2 ^ k → eucN f a b ≤ 2 * k
  | _, 0, _, _, _ => Nat.zero_le _
  | 0, f + 1, a, b, h => by
    have : b = 0 := by have : b < 1 := h; omega
    unfold eucN; rw [if_pos this]; exact Nat.le_refl _
  | k + 1, f + 1, a, b, h => by
    unfold eucN
    by_cases hb : b = 0
    · rw [if_pos hb]; omega
    rw [if_neg hb]
    cases f with
    | zero => show 0 + 1 ≤ _; omega
    | succ f =>
      unfold eucN
      have h1 := Nat.mod_lt a (Nat.pos_of_ne_zero hb)
      by_cases hc : a % b = 0
      · rw [if_pos hc]; omega
      rw [if_neg hc]
      have h2 := Nat.mod_lt b (Nat.pos_of_ne_zero hc)
      have h3 := Nat.div_add_mod b (a % b)
      have h4 : 1 ≤ b / (a % b) := (Nat.one_le_div_iff (Nat.pos_of_ne_zero hc)).2 (Nat.le_of_lt h1)
      have h5 : a % b ≤ (a % b) * (b / (a % b)) := Nat.le_mul_of_pos_right _ h4
      have h6 : 2 ^ (k + 1) = 2 * 2 ^ k := by rw [Nat.pow_succ]; omega
      have := euc_few k f (a % b) (b % (a % b)) (by omega)
      omega
/-- Once round. -/
theorem euc_round (a b : Nat) (regs vars : Nat → Int) (steps : Nat) (outs : List Int) (stops : List Sn) (ha : a ≤ 65535) (hb : 0 < b) (hb' : b ≤ 65535) (h0 : regs 0 = (a : Int)) (h1 : regs 1 = (b : Int)) :
    ∃ regs' vars' x, runSt knP1 10 ⟨0, regs, vars, true, 2, 0, steps, outs, stops, progEnv⟩ = ⟨0, regs', vars', true, 2, 0, steps + 10, outs, stops ++ [x], progEnv⟩ ∧ regs' 0 = (b : Int) ∧ regs' 1 = ((a % b : Nat) : Int) := by
  have hd : (a : Int) / (b : Int) = ((a / b : Nat) : Int) := rfl
  have hq : a / b * b ≤ a := Nat.div_mul_le_self a b
  have hm : a % b = a - a / b * b := by have := Nat.div_add_mod a b; rw [Nat.mul_comm] at this; omega
  have hdle : a / b ≤ a := Nat.div_le_self a b
  have r1 : ∀ s : St, s.regs 0 = (a : Int) → s.regs 1 = (b : Int) → reachE 5 (s.regs 0) (s.regs 1) = ((a / b : Nat) : Int) := fun s e0 e1 => by rw [e0, e1, reach5 (by omega), hd]
  have r2 : ((a / b : Nat) : Int) * (b : Int) % 65536 = ((a / b * b : Nat) : Int) := by rw [← Int.natCast_mul]; omega
  refine ⟨upd (upd (upd (upd (upd regs 2 (a / b : Nat)) 3 (a / b * b : Nat)) 4 (a % b : Nat)) 0 b) 1 (a % b : Nat), upd (upd vars 0 (regs 0)) 1 (regs 1), ⟨1, regs 0, regs 1, vars 2, vars 3⟩, ?_, rfl, rfl⟩
  refine go_one rfl (s' := ⟨2, regs, vars, true, 2, 0, steps + 1, outs, stops, progEnv⟩) ?_ ?_
  · show (if regs 1 = 0 then _ else _) = _
    rw [if_neg (by omega)]; rfl
  refine go_one rfl (s' := ⟨3, regs, upd vars 0 (regs 0), true, 2, 0, steps + 2, outs, stops, progEnv⟩) rfl ?_
  refine go_one rfl (s' := ⟨4, regs, upd (upd vars 0 (regs 0)) 1 (regs 1), true, 2, 0, steps + 3, outs, stops, progEnv⟩) rfl ?_
  refine go_one rfl (s' := ⟨5, regs, upd (upd vars 0 (regs 0)) 1 (regs 1), true, 2, 0, steps + 4, outs, stops ++ [⟨1, regs 0, regs 1, vars 2, vars 3⟩], progEnv⟩) rfl ?_
  obtain ⟨vs, hvs⟩ : ∃ vs, vs = upd (upd vars 0 (regs 0)) 1 (regs 1) := ⟨_, rfl⟩
  obtain ⟨st, hst⟩ : ∃ st, st = stops ++ [(⟨1, regs 0, regs 1, vars 2, vars 3⟩ : Sn)] := ⟨_, rfl⟩
  rw [← hvs, ← hst]
  refine go_one rfl (s' := ⟨6, upd regs 2 (a / b : Nat), vs, true, 2, 0, steps + 5, outs, st, progEnv⟩) ?_ ?_
  · have := reck_yes (op := 5) (by decide) 2 0 1 (⟨5, regs, vs, true, 2, 0, steps + 4, outs, st, progEnv⟩ : St) (by rw [r1 _ h0 h1]; exact Int.natCast_nonneg _)
    rw [r1 _ h0 h1] at this
    exact this
  refine go_one rfl (s' := ⟨7, upd (upd regs 2 (a / b : Nat)) 3 (a / b * b : Nat), vs, true, 2, 0, steps + 6, outs, st, progEnv⟩) ?_ ?_
  · have e2 : (⟨6, upd regs 2 (a / b : Nat), vs, true, 2, 0, steps + 5, outs, st, progEnv⟩ : St).regs 2 = ((a / b : Nat) : Int) := rfl
    have e1 : (⟨6, upd regs 2 (a / b : Nat), vs, true, 2, 0, steps + 5, outs, st, progEnv⟩ : St).regs 1 = (b : Int) := h1
    have := reck_yes (op := 4) (by decide) 3 2 1 (⟨6, upd regs 2 (a / b : Nat), vs, true, 2, 0, steps + 5, outs, st, progEnv⟩ : St) (by rw [reach4, e2, e1, r2]; exact Int.natCast_nonneg _)
    rw [reach4, e2, e1, r2] at this
    exact this
  refine go_one rfl (s' := ⟨8, upd (upd (upd regs 2 (a / b : Nat)) 3 (a / b * b : Nat)) 4 (a % b : Nat), vs, true, 2, 0, steps + 7, outs, st, progEnv⟩) ?_ ?_
  · have e0 : (⟨7, upd (upd regs 2 (a / b : Nat)) 3 (a / b * b : Nat), vs, true, 2, 0, steps + 6, outs, st, progEnv⟩ : St).regs 0 = (a : Int) := h0
    have e3 : (⟨7, upd (upd regs 2 (a / b : Nat)) 3 (a / b * b : Nat), vs, true, 2, 0, steps + 6, outs, st, progEnv⟩ : St).regs 3 = ((a / b * b : Nat) : Int) := rfl
    have e4 : ((a : Int) + 65536 - ((a / b * b : Nat) : Int)) % 65536 = ((a % b : Nat) : Int) := by rw [hm]; omega
    have := reck_yes (op := 3) (by decide) 4 0 3 (⟨7, upd (upd regs 2 (a / b : Nat)) 3 (a / b * b : Nat), vs, true, 2, 0, steps + 6, outs, st, progEnv⟩ : St) (by rw [reach3, e0, e3, e4]; exact Int.natCast_nonneg _)
    rw [reach3, e0, e3, e4] at this
    exact this
  refine go_one rfl (s' := ⟨9, upd (upd (upd (upd regs 2 (a / b : Nat)) 3 (a / b * b : Nat)) 4 (a % b : Nat)) 0 b, vs, true, 2, 0, steps + 8, outs, st, progEnv⟩) ?_ ?_
  · show (⟨9, upd (upd (upd (upd regs 2 (a / b : Nat)) 3 (a / b * b : Nat)) 4 (a % b : Nat)) 0 (regs 1), vs, true, 2, 0, steps + 8, outs, st, progEnv⟩ : St) = _
    rw [h1]
  refine go_one rfl (s' := ⟨10, upd (upd (upd (upd (upd regs 2 (a / b : Nat)) 3 (a / b * b : Nat)) 4 (a % b : Nat)) 0 b) 1 (a % b : Nat), vs, true, 2, 0, steps + 9, outs, st, progEnv⟩) rfl ?_
  exact go_one rfl rfl rfl
theorem euc_all : ∀ (f a b : Nat) (regs vars : Nat → Int) (steps : Nat) (outs : List Int) (stops : List Sn), b < f → a ≤ 65535 → b ≤ 65535 → regs 0 = (a : Int) → regs 1 = (b : Int) →
    ∃ t : St, runSt knP1 (10 * eucN f a b + 2) ⟨0, regs, vars, true, 2, 0, steps, outs, stops, progEnv⟩ = t ∧ t.on = false ∧ t.kind = 0 ∧ t.val = (eucG f a b : Int) ∧ t.stops.length = stops.length + eucN f a b
  | 0, _, _, _, _, _, _, _, h, _, _, _, _ => absurd h (Nat.not_lt_zero _)
  | f + 1, a, b, regs, vars, steps, outs, stops, hf, ha, hb, h0, h1 => by
    unfold eucN eucG
    by_cases hz : b = 0
    · rw [if_pos hz, if_pos hz]
      refine ⟨⟨2, regs, vars, false, 0, a, steps + 2, outs, stops, progEnv⟩, ?_, rfl, rfl, rfl, rfl⟩
      refine go_one rfl (s' := ⟨1, regs, vars, true, 2, 0, steps + 1, outs, stops, progEnv⟩) ?_ ?_
      · show (if regs 1 = 0 then _ else _) = _
        rw [if_pos (by rw [h1]; omega)]; rfl
      · refine go_one rfl (s' := ⟨2, regs, vars, false, 0, a, steps + 2, outs, stops, progEnv⟩) ?_ rfl
        show (⟨2, regs, vars, false, 0, regs 0, steps + 2, outs, stops, progEnv⟩ : St) = _
        rw [h0]
    · rw [if_neg hz, if_neg hz]
      have hm := Nat.mod_lt a (Nat.pos_of_ne_zero hz)
      obtain ⟨regs', vars', x, e, e0, e1⟩ := euc_round a b regs vars steps outs stops ha (Nat.pos_of_ne_zero hz) hb h0 h1
      obtain ⟨t, ht, a1, a2, a3, a4⟩ := euc_all f b (a % b) regs' vars' (steps + 10) outs (stops ++ [x]) (by omega) hb (by omega) e0 e1
      refine ⟨t, ?_, a1, a2, a3, ?_⟩
      · rw [show 10 * (eucN f b (a % b) + 1) + 2 = 10 + (10 * eucN f b (a % b) + 2) by omega, run_add, e]; exact ht
      · rw [a4, List.length_append]; simp; omega
end Go.Proofs.YtoepcplbpochpabDoor

/-
  Lists of what was seen at Stops, in memory; what a run owns is held.
-/
namespace Go.Proofs.YtoepcplbpochpabDoor
open Go.RowKit

/-- A list of what was seen lies somewhere. -/
def snAt (l : List Sn) (i : Nat) : Sn := l.getD i ⟨0, 0, 0, 0, 0⟩
def Sn.v (x : Sn) (j : Nat) : Int := if j = 0 then x.v0 else if j = 1 then x.v1 else if j = 2 then x.v2 else x.v3
def SeenC (w : World) (b o : Nat) (x : Sn) : Prop := w.cell? ⟨b, o, none⟩ = some (.int .i64 x.no) ∧ ∀ j, j < 4 → w.cell? ⟨b, o + 1 + j, none⟩ = some (.int .i64 (x.v j))
def HeldS (w : World) (ao : Option Addr) (l : List Sn) : Prop := l = [] ∨ ∃ b off, ao = some ⟨b, off, none⟩ ∧ b < w.heap.size ∧ ∀ i, i < l.length → SeenC w b (off + i * 5) (snAt l i)

theorem snCells_at : ∀ (l : List Sn) (i : Nat), i < l.length → ∀ j, j < 5 → (snCells l)[i * 5 + j]? = (snAt l i).cells[j]?
  | [], i, h, _, _ => absurd h (by simp)
  | r :: R, 0, _, j, hj => by
    unfold snCells; rw [List.flatMap_cons, Nat.zero_mul, Nat.zero_add, List.getElem?_append_left (by exact hj)]; rfl
  | r :: R, i + 1, h, j, hj => by
    have ih := snCells_at R i (by simpa using h) j hj
    unfold snCells at *
    rw [List.flatMap_cons, List.getElem?_append_right (by show 5 ≤ _; omega), show (i + 1) * 5 + j - r.cells.length = i * 5 + j by show _ - 5 = _; omega, ih]
    rfl
theorem own_heldI {w : World} {base : Nat} {v : Value} {xs : List Int} (h : w.ownsRow base 3 1 v xs.length (intCells xs)) : ∃ ao cap, v = .slice ao xs.length cap ∧ HeldI w ao xs ∧ xs.length ≤ maxLen := by
  rcases h.2 with ⟨rfl, h0⟩ | ⟨g, cap, cur, rfl, h2, h3, h4, h5, h6, h7⟩
  · have : xs = [] := List.length_eq_zero_iff.1 h0
    subst this
    exact ⟨none, 0, rfl, .inl rfl, by decide⟩
  · refine ⟨some ⟨g, 0, none⟩, cap, rfl, .inr ⟨g, 0, rfl, (Array.getElem?_eq_some_iff.1 h3).1, fun i hi => ?_⟩, by omega⟩
    rw [Nat.zero_add, h.cellAt i (by omega)]
    unfold intCells nth
    rw [List.getElem?_map, List.getElem?_eq_getElem hi, List.getD_eq_getElem?_getD, List.getElem?_eq_getElem hi]
    rfl
theorem own_heldS {w : World} {base : Nat} {v : Value} {l : List Sn} (h : w.ownsRow base 57 5 v l.length (snCells l)) : ∃ ao cap, v = .slice ao l.length cap ∧ HeldS w ao l ∧ l.length ≤ maxLen := by
  rcases h.2 with ⟨rfl, h0⟩ | ⟨g, cap, cur, rfl, h2, h3, h4, h5, h6, h7⟩
  · have : l = [] := List.length_eq_zero_iff.1 h0
    subst this
    exact ⟨none, 0, rfl, .inl rfl, by decide⟩
  · refine ⟨some ⟨g, 0, none⟩, cap, rfl, .inr ⟨g, 0, rfl, (Array.getElem?_eq_some_iff.1 h3).1, fun i hi => ?_⟩, by omega⟩
    have key : ∀ j, j < 5 → w.cell? ⟨g, i * 5 + j, none⟩ = (snAt l i).cells[j]? := fun j hj => by
      rw [h.cellAt (i * 5 + j) (by omega), snCells_at l i hi j hj]
    rw [Nat.zero_add]
    refine ⟨key 0 (by decide), fun j hj => ?_⟩
    rcases (show j = 0 ∨ j = 1 ∨ j = 2 ∨ j = 3 by omega) with rfl | rfl | rfl | rfl
    · exact key 1 (by decide)
    · exact key 2 (by decide)
    · exact key 3 (by decide)
    · exact key 4 (by decide)
theorem HeldS.below {w w' : World} {ao : Option Addr} {l : List Sn} (h : HeldS w ao l) (hb : Below w.heap.size w w') : HeldS w' ao l := by
  rcases h with h | ⟨b, off, e, hB, hL⟩
  · exact .inl h
  · exact .inr ⟨b, off, e, Nat.lt_of_lt_of_le hB hb.size, fun i hi => ⟨(hb.cell (p := ⟨b, off + i * 5, none⟩) hB).trans (hL i hi).1, fun j hj => (hb.cell (p := ⟨b, off + i * 5 + 1 + j, none⟩) hB).trans ((hL i hi).2 j hj)⟩⟩

end Go.Proofs.YtoepcplbpochpabDoor

/-
  One list of numbers is the beginning of another; the Stops of two runs have the same numbers (lodgekeep.ahead, met; lodgelaw.ahead).
-/
namespace Go.Proofs.YtoepcplbpochpabDoor
open Go.RowKit

set_option maxRecDepth 100000 in
set_option maxHeartbeats 2000000 in
theorem ahead_any (xs ys : List Int) (ao bo : Option Addr) (c1 c2 : Nat) (w : World) (hA : HeldI w ao xs) (hB : HeldI w bo ys) (hl : xs.length ≤ 9223372036854775807) (hl' : ys.length ≤ 9223372036854775807) (hp : ∀ i, i < xs.length → i < ys.length → nth xs i = nth ys i) :
    Calls Tryd.prog 37 #[.slice ao xs.length c1, .slice bo ys.length c2] w fun e w' => e = .returned (.bool true) ∧ Below w.heap.size w w' := by
  have HA := hide hA
  have HB := hide hB
  have HP := hide hp
  clear hA hB hp
  go_enter Tryd.func37, Tryd.ntmps37
  go_wp2_with fail
  go_loopw [5] (fun i wr => ∃ k : Nat, k ≤ xs.length ∧ i = .int .i64 k ∧ Hid (Below w.heap.size w wr)) (fun i _ => xs.length - (intOf i).toNat)
  case atStart => exact ⟨0, Nat.zero_le _, rfl, Below.refl _ _⟩
  case round =>
    obtain ⟨k, hk, rfl, HW⟩ := hrel
    by_cases hlt : k < xs.length
    case neg =>
      have hc : ¬ ((k : Int) < (xs.length : Int)) := by omega
      go_wp2_with fail
      go_ret
      exact ⟨rfl, unhide HW⟩
    by_cases hlt' : k < ys.length
    case neg =>
      have hc : (k : Int) < (xs.length : Int) := by omega
      have hc' : ¬ ((k : Int) < (ys.length : Int)) := by omega
      go_wp2_with fail
      go_ret
      exact ⟨rfl, unhide HW⟩
    obtain ⟨b1, o1, rfl, h1, g1⟩ : ∃ b off, ao = some ⟨b, off, none⟩ ∧ b < w.heap.size ∧ ∀ i, i < xs.length → w.cell? ⟨b, off + i, none⟩ = some (.int .i64 (nth xs i)) := by
      rcases unhide HA with h | h
      · subst h; exact absurd hlt (by simp)
      · exact h
    obtain ⟨b2, o2, rfl, h2, g2⟩ : ∃ b off, bo = some ⟨b, off, none⟩ ∧ b < w.heap.size ∧ ∀ i, i < ys.length → w.cell? ⟨b, off + i, none⟩ = some (.int .i64 (nth ys i)) := by
      rcases unhide HB with h | h
      · subst h; exact absurd hlt' (by simp)
      · exact h
    obtain ⟨y, hy⟩ : ∃ y, y = nth xs k := ⟨_, rfl⟩
    have d1 : wr.cell? ⟨b1, o1 + k, none⟩ = some (.int .i64 y) := by rw [hy]; exact ((unhide HW).cell (p := ⟨b1, o1 + k, none⟩) h1).trans (g1 k hlt)
    have d2 : wr.cell? ⟨b2, o2 + k, none⟩ = some (.int .i64 y) := by rw [hy, unhide HP k hlt hlt']; exact ((unhide HW).cell (p := ⟨b2, o2 + k, none⟩) h2).trans (g2 k hlt')
    have k0 : (0 : Int) ≤ (k : Int) := by omega
    have k1 : (k : Int) < (xs.length : Int) := by omega
    have k2 : (k : Int) < (ys.length : Int) := by omega
    clear g1 g2 hy
    go_wp2_with fail
    go_region_held3 (fun w' => w'.cell? ⟨b1, o1 + k, none⟩ = some (.int .i64 y) ∧ w'.cell? ⟨b2, o2 + k, none⟩ = some (.int .i64 y)) (simp [*]) (fail)
    go_wp2_with fail
    go_roundw
    case rel => exact ⟨k + 1, by omega, by go_num, (unhide HW).drew⟩
    case measure => simp [intOf]; omega

set_option maxRecDepth 100000 in
set_option maxHeartbeats 2000000 in
theorem met_any (l m : List Sn) (ao bo : Option Addr) (c1 c2 : Nat) (w : World) (hA : HeldS w ao l) (hB : HeldS w bo m) (hl : l.length ≤ 9223372036854775807) (hl' : m.length ≤ 9223372036854775807) (hp : ∀ i, i < l.length → i < m.length → (snAt l i).no = (snAt m i).no) :
    Calls Tryd.prog 38 #[.slice ao l.length c1, .slice bo m.length c2] w fun e w' => e = .returned (.bool true) ∧ Below w.heap.size w w' := by
  have HA := hide hA
  have HB := hide hB
  have HP := hide hp
  clear hA hB hp
  go_enter Tryd.func38, Tryd.ntmps38
  go_wp2_with fail
  go_loopw [5] (fun i wr => ∃ k : Nat, k ≤ l.length ∧ i = .int .i64 k ∧ Hid (Below w.heap.size w wr)) (fun i _ => l.length - (intOf i).toNat)
  case atStart => exact ⟨0, Nat.zero_le _, rfl, Below.refl _ _⟩
  case round =>
    obtain ⟨k, hk, rfl, HW⟩ := hrel
    by_cases hlt : k < l.length
    case neg =>
      have hc : ¬ ((k : Int) < (l.length : Int)) := by omega
      go_wp2_with fail
      go_ret
      exact ⟨rfl, unhide HW⟩
    by_cases hlt' : k < m.length
    case neg =>
      have hc : (k : Int) < (l.length : Int) := by omega
      have hc' : ¬ ((k : Int) < (m.length : Int)) := by omega
      go_wp2_with fail
      go_ret
      exact ⟨rfl, unhide HW⟩
    obtain ⟨b1, o1, rfl, h1, g1⟩ : ∃ b off, ao = some ⟨b, off, none⟩ ∧ b < w.heap.size ∧ ∀ i, i < l.length → SeenC w b (off + i * 5) (snAt l i) := by
      rcases unhide HA with h | h
      · subst h; exact absurd hlt (by simp)
      · exact h
    obtain ⟨b2, o2, rfl, h2, g2⟩ : ∃ b off, bo = some ⟨b, off, none⟩ ∧ b < w.heap.size ∧ ∀ i, i < m.length → SeenC w b (off + i * 5) (snAt m i) := by
      rcases unhide HB with h | h
      · subst h; exact absurd hlt' (by simp)
      · exact h
    obtain ⟨y, hy⟩ : ∃ y, y = (snAt l k).no := ⟨_, rfl⟩
    have d1 : wr.cell? ⟨b1, o1 + k * 5, none⟩ = some (.int .i64 y) := by rw [hy]; exact ((unhide HW).cell (p := ⟨b1, o1 + k * 5, none⟩) h1).trans (g1 k hlt).1
    have d2 : wr.cell? ⟨b2, o2 + k * 5, none⟩ = some (.int .i64 y) := by rw [hy, unhide HP k hlt hlt']; exact ((unhide HW).cell (p := ⟨b2, o2 + k * 5, none⟩) h2).trans (g2 k hlt').1
    have k0 : (0 : Int) ≤ (k : Int) := by omega
    have k1 : (k : Int) < (l.length : Int) := by omega
    have k2 : (k : Int) < (m.length : Int) := by omega
    clear g1 g2 hy
    go_wp2_with fail
    go_region_held3 (fun w' => w'.cell? ⟨b1, o1 + k * 5, none⟩ = some (.int .i64 y) ∧ w'.cell? ⟨b2, o2 + k * 5, none⟩ = some (.int .i64 y)) (simp [*]) (fail)
    go_wp2_with fail
    go_roundw
    case rel => exact ⟨k + 1, by omega, by go_num, (unhide HW).drew⟩
    case measure => simp [intOf]; omega
end Go.Proofs.YtoepcplbpochpabDoor

/-
  The second run showed what the first did: lodgekeep.shown.
-/
namespace Go.Proofs.YtoepcplbpochpabDoor
open Go.RowKit

/-- What shown asks for. -/
structure ShowOk (s t : St) : Prop where
  outs : ∀ i, i < s.outs.length → i < t.outs.length → nth s.outs i = nth t.outs i
  stops : ∀ i, i < s.stops.length → i < t.stops.length → (snAt s.stops i).no = (snAt t.stops i).no
  lo : s.outs.length ≤ t.outs.length
  ls : s.stops.length ≤ t.stops.length
  fin : s.kind ≠ 2 → t.kind = s.kind ∧ t.val = s.val ∧ t.outs.length = s.outs.length ∧ t.stops.length = s.stops.length
/-- Two results, boxed. -/
structure Res2 (w : World) (N : Nat) (s t : St) (ao : Option Addr) (co : Nat) (as' : Option Addr) (cs : Nat) (bo : Option Addr) (do' : Nat) (bs : Option Addr) (ds : Nat) : Prop where
  a0 : w.cell? ⟨N, 0, none⟩ = some (.int .i64 s.kind)
  a1 : w.cell? ⟨N, 1, none⟩ = some (.int .i64 s.val)
  a2 : w.cell? ⟨N, 2, none⟩ = some (.int .i64 (s.steps : Int))
  a3 : w.cell? ⟨N, 3, none⟩ = some (.slice ao s.outs.length co)
  a4 : w.cell? ⟨N, 4, none⟩ = some (.slice as' s.stops.length cs)
  b0 : w.cell? ⟨N + 1, 0, none⟩ = some (.int .i64 t.kind)
  b1 : w.cell? ⟨N + 1, 1, none⟩ = some (.int .i64 t.val)
  b2 : w.cell? ⟨N + 1, 2, none⟩ = some (.int .i64 (t.steps : Int))
  b3 : w.cell? ⟨N + 1, 3, none⟩ = some (.slice bo t.outs.length do')
  b4 : w.cell? ⟨N + 1, 4, none⟩ = some (.slice bs t.stops.length ds)
theorem Res2.below {w w' : World} {N : Nat} {s t : St} {ao : Option Addr} {co : Nat} {as' : Option Addr} {cs : Nat} {bo : Option Addr} {do' : Nat} {bs : Option Addr} {ds : Nat} (h : Res2 w N s t ao co as' cs bo do' bs ds) {B : Nat} (hb : Below B w w') (hB : N + 1 < B) : Res2 w' N s t ao co as' cs bo do' bs ds :=
  ⟨(hb.cell (p := ⟨N, 0, none⟩) (show N < B by omega)).trans h.a0, (hb.cell (p := ⟨N, 1, none⟩) (show N < B by omega)).trans h.a1, (hb.cell (p := ⟨N, 2, none⟩) (show N < B by omega)).trans h.a2, (hb.cell (p := ⟨N, 3, none⟩) (show N < B by omega)).trans h.a3, (hb.cell (p := ⟨N, 4, none⟩) (show N < B by omega)).trans h.a4,
   (hb.cell (p := ⟨N + 1, 0, none⟩) hB).trans h.b0, (hb.cell (p := ⟨N + 1, 1, none⟩) hB).trans h.b1, (hb.cell (p := ⟨N + 1, 2, none⟩) hB).trans h.b2, (hb.cell (p := ⟨N + 1, 3, none⟩) hB).trans h.b3, (hb.cell (p := ⟨N + 1, 4, none⟩) hB).trans h.b4⟩
theorem box_res (w : World) (s t : St) (ao : Option Addr) (co : Nat) (as' : Option Addr) (cs : Nat) (bo : Option Addr) (do' : Nat) (bs : Option Addr) (ds : Nat) : ∃ w1, w1 = (w.alloc (.cells #[.int .i64 s.kind, .int .i64 s.val, .int .i64 (s.steps : Int), .slice ao s.outs.length co, .slice as' s.stops.length cs] 38)).alloc (.cells #[.int .i64 t.kind, .int .i64 t.val, .int .i64 (t.steps : Int), .slice bo t.outs.length do', .slice bs t.stops.length ds] 38) ∧
    Hid (Res2 w1 w.heap.size s t ao co as' cs bo do' bs ds) ∧ Hid (Below w.heap.size w w1) ∧ w1.heap.size = w.heap.size + 2 := by
  refine ⟨_, rfl, ⟨?_, ?_, ?_, ?_, ?_, ?_, ?_, ?_, ?_, ?_⟩, ((Below.refl _ _).alloc (Nat.le_refl _) _).alloc (by simp) _, by simp⟩
  · rw [World.cell?_alloc_past (hn := by simp), World.cell?_alloc_at (hn := rfl)]; rfl
  · rw [World.cell?_alloc_past (hn := by simp), World.cell?_alloc_at (hn := rfl)]; rfl
  · rw [World.cell?_alloc_past (hn := by simp), World.cell?_alloc_at (hn := rfl)]; rfl
  · rw [World.cell?_alloc_past (hn := by simp), World.cell?_alloc_at (hn := rfl)]; rfl
  · rw [World.cell?_alloc_past (hn := by simp), World.cell?_alloc_at (hn := rfl)]; rfl
  · rw [World.cell?_alloc_at (hn := by simp)]; rfl
  · rw [World.cell?_alloc_at (hn := by simp)]; rfl
  · rw [World.cell?_alloc_at (hn := by simp)]; rfl
  · rw [World.cell?_alloc_at (hn := by simp)]; rfl
  · rw [World.cell?_alloc_at (hn := by simp)]; rfl

end Go.Proofs.YtoepcplbpochpabDoor

/-
  A run's own sums: lodgekeep.counted.
-/
namespace Go.Proofs.YtoepcplbpochpabDoor
open Go.RowKit

/-- A run's sums are as they should be. -/
def CountOk (kd vl st fuel : Int) : Prop := (kd = 2 ∧ st = fuel ∧ vl = 0) ∨ ((kd = 0 ∨ (kd = 1 ∧ vl = 0)) ∧ 0 < st ∧ st ≤ fuel ∧ 0 ≤ vl ∧ vl ≤ 65535)

set_option maxRecDepth 100000 in
set_option maxHeartbeats 4000000 in
theorem counted_any (kd vl st fuel : Int) (ao bo : Option Addr) (n1 c1 n2 c2 : Nat) (w : World) (h : CountOk kd vl st fuel) :
    Calls Tryd.prog 36 #[.agg #[.int .i64 kd, .int .i64 vl, .int .i64 st, .slice ao n1 c1, .slice bo n2 c2], .int .i64 fuel] w fun e w' => e = .returned (.bool true) ∧ Below w.heap.size w w' := by
  rcases h with ⟨rfl, rfl, rfl⟩ | ⟨h | ⟨rfl, rfl⟩, h1, h2, h3, h4⟩
  · go_enter Tryd.func36, Tryd.ntmps36
    go_wp2_with fail
    go_returns
    exact ⟨rfl, (Below.refl _ _).alloc (Nat.le_refl _) _⟩
  · subst h
    go_enter Tryd.func36, Tryd.ntmps36
    go_wp2_with fail
    go_returns
    exact ⟨rfl, (Below.refl _ _).alloc (Nat.le_refl _) _⟩
  · go_enter Tryd.func36, Tryd.ntmps36
    go_wp2_with fail
    go_returns
    exact ⟨rfl, (Below.refl _ _).alloc (Nat.le_refl _) _⟩
end Go.Proofs.YtoepcplbpochpabDoor

/-
  What the program's own unit's run tells at a Stop: (*mach.run).held, (*mach.run).ask.
-/
namespace Go.Proofs.YtoepcplbpochpabDoor
open Go.RowKit

set_option maxRecDepth 100000 in
set_option maxHeartbeats 2000000 in
theorem held_any (B : Nat) (s : St) (vo vs : Value) (r : Rg) (w : World) (h : StB w B s vo vs) (hnv : s.env.nv = 16) (ha : r.k = 0 ∨ r.k = 1 → 0 ≤ r.a ∧ r.a < 16) :
    Calls Tryd.prog 68 #[.pointer (some ⟨B, 0, none⟩), .agg #[.int .i64 r.v, .int .i64 r.f, .int .i64 r.t, .int .i64 r.k, .int .i64 r.a]] w fun e w' =>
      e = .returned (.int .i64 (heldE s.regs s.vars r)) ∧ Below w.heap.size w w' := by
  have hB := h.lt
  obtain ⟨v, f, t, k, a⟩ := r
  simp only at ha ⊢
  obtain ⟨w2, hw2⟩ : ∃ w2, w2 = w.alloc (.cells #[.int .i64 v, .int .i64 f, .int .i64 t, .int .i64 k, .int .i64 a] 109) := ⟨_, rfl⟩
  have HS2 : Hid (StB w2 B s vo vs) := by rw [hw2]; exact h.of_block (Below.heap_alloc _ _ _ hB)
  have q : ∀ i, w2.cell? ⟨w.heap.size, i, none⟩ = #[Value.int .i64 v, .int .i64 f, .int .i64 t, .int .i64 k, .int .i64 a][i]? := fun i => by rw [hw2]; exact World.cell?_alloc_at (hn := rfl) ..
  have q3 : w2.cell? ⟨w.heap.size, 3, none⟩ = some (.int .i64 k) := (q 3).trans rfl
  have q4 : w2.cell? ⟨w.heap.size, 4, none⟩ = some (.int .i64 a) := (q 4).trans rfl
  have HB2 : Hid (Below w.heap.size w w2) := by rw [hw2]; exact (Below.refl _ _).alloc (Nat.le_refl _) _
  have HW := hide hw2
  clear q hw2 h
  by_cases h0 : k = 0
  · subst h0
    obtain ⟨a0, a1⟩ := ha (.inl rfl)
    obtain ⟨an, rfl⟩ : ∃ an : Nat, a = an := ⟨a.toNat, by omega⟩
    obtain ⟨y, hy⟩ : ∃ y, y = s.regs an := ⟨_, rfl⟩
    have ca : w2.cell? ⟨B, an, none⟩ = some (.int .i64 y) := by rw [hy]; exact (unhide HS2).1 an (by omega)
    have he := hide (show heldE s.regs s.vars ⟨v, f, t, 0, (an : Int)⟩ = y by rw [hy]; rfl)
    clear hy ha
    go_enter Tryd.func68, Tryd.ntmps68
    go_wp2_with fail
    rw [← unhide HW]
    go_wp2_with fail
    go_region_held3 (fun w' => w'.cell? ⟨w.heap.size, 4, none⟩ = some (.int .i64 (an : Int)) ∧ w'.cell? ⟨B, an, none⟩ = some (.int .i64 y)) (simp [*]) (fail)
    go_wp2_with fail
    go_ret
    exact ⟨ret_int (unhide he).symm, (unhide HB2).drew⟩
  by_cases h1 : k = 1
  · subst h1
    obtain ⟨a0, a1⟩ := ha (.inr rfl)
    obtain ⟨an, rfl⟩ : ∃ an : Nat, a = an := ⟨a.toNat, by omega⟩
    obtain ⟨y, hy⟩ : ∃ y, y = s.vars an := ⟨_, rfl⟩
    have ca : w2.cell? ⟨B, 23 + an, none⟩ = some (.int .i64 y) := by rw [hy]; exact (unhide HS2).2.1 an (by omega)
    have he := hide (show heldE s.regs s.vars ⟨v, f, t, 1, (an : Int)⟩ = y by rw [hy]; rfl)
    clear hy ha
    go_enter Tryd.func68, Tryd.ntmps68
    go_wp2_with fail
    rw [← unhide HW]
    go_wp2_with fail
    go_region_held3 (fun w' => w'.cell? ⟨w.heap.size, 4, none⟩ = some (.int .i64 (an : Int)) ∧ w'.cell? ⟨B, 23 + an, none⟩ = some (.int .i64 y)) (simp [*]) (fail)
    go_wp2_with fail
    go_ret
    exact ⟨ret_int (unhide he).symm, (unhide HB2).drew⟩
  · have e0 : (k == 0) = false := by rw [beq_eq_false_iff_ne]; exact h0
    have e1 : (k == 1) = false := by rw [beq_eq_false_iff_ne]; exact h1
    have he := hide (show heldE s.regs s.vars ⟨v, f, t, k, a⟩ = a by unfold heldE; rw [if_neg h0, if_neg h1])
    clear ha
    go_enter Tryd.func68, Tryd.ntmps68
    go_wp2_with fail
    rw [← unhide HW]
    go_wp2_with fail
    go_ret
    exact ⟨ret_int (unhide he).symm, unhide HB2⟩

theorem Tryd.size55 : (Tryd.prog.info? 55).map (·.size) = some 4 := by kernel_rfl
/-- Four numbers in a block. -/
def Four (w : World) (D : Nat) (f : Nat → Int) : Prop := (∀ v, v < 4 → w.cell? ⟨D, v, none⟩ = some (.int .i64 (f v))) ∧ ∀ o, w.frozen? ⟨D, o, none⟩ = false
theorem Four.lt {w : World} {D : Nat} {f : Nat → Int} (h : Four w D f) : D < w.heap.size := World.block_lt_of_cell? w ⟨D, 0, none⟩ (h.1 0 (by decide))
theorem Four.of_block {w w' : World} {D : Nat} {f : Nat → Int} (h : Four w D f) (hb : w'.heap[D]? = w.heap[D]?) : Four w' D f :=
  ⟨fun v hv => (World.cell?_of_block hb).trans (h.1 v hv), fun o => (World.frozen?_of_block hb).trans (h.2 o)⟩
theorem Four.set {w : World} {D : Nat} {f g : Nat → Int} (h : Four w D f) (v : Nat) (hv : v < 4) (y : Int) (hg : ∀ u, u < 4 → g u = if u = v then y else f u) : Four (w.setCell ⟨D, v, none⟩ (.int .i64 y)) D g := by
  refine ⟨fun u hu => ?_, frozen_set h.2⟩
  rw [hg u hu]
  by_cases e : u = v
  · subst e; rw [cell_put (h.1 u hu), if_pos rfl]
  · rw [cell_set (h.1 u hu) e, if_neg e]
theorem Four.to {w : World} {D : Nat} {f g : Nat → Int} (h : Four w D f) (hg : ∀ u, u < 4 → g u = f u) : Four w D g := ⟨fun u hu => by rw [hg u hu]; exact h.1 u hu, h.2⟩
theorem four_row {w : World} {D : Nat} {a b c d : Value} {t : TypeId} {f : Nat → Int} (h : w.heap[D]? = some (.cells #[a, b, c, d] t (0, 0))) (h0 : a = .int .i64 (f 0)) (h1 : b = .int .i64 (f 1)) (h2 : c = .int .i64 (f 2)) (h3 : d = .int .i64 (f 3)) : Four w D f := by
  refine ⟨fun v hv => ?_, fun o => by simp [World.frozen?, h]⟩
  rw [cell_of_row w D v _ t (0, 0) h]
  rcases (show v = 0 ∨ v = 1 ∨ v = 2 ∨ v = 3 by omega) with rfl | rfl | rfl | rfl
  · rw [h0]; rfl
  · rw [h1]; rfl
  · rw [h2]; rfl
  · rw [h3]; rfl
theorem set4 {w : World} {g : Nat} {z0 z1 z2 z3 : Value} (h : w.heap[g]? = some (.cells #[z0, z1, z2, z3] 55 (0, 0))) (a b c d : Value) :
    ((((w.setCell ⟨g, 0, none⟩ a).setCell ⟨g, 1, none⟩ b).setCell ⟨g, 2, none⟩ c).setCell ⟨g, 3, none⟩ d).heap[g]? = some (.cells #[a, b, c, d] 55 (0, 0)) := by
  have h0 := heap_setCell_same w g 0 _ 55 a h
  have h1 := heap_setCell_same _ g 1 _ 55 b h0
  have h2 := heap_setCell_same _ g 2 _ 55 c h1
  have h3 := heap_setCell_same _ g 3 _ 55 d h2
  rw [h3]; rfl
theorem below4 {B : Nat} {a w : World} {g : Nat} (h : Below B a w) (hg : B ≤ g) (v0 v1 v2 v3 : Value) : Below B a ((((w.setCell ⟨g, 0, none⟩ v0).setCell ⟨g, 1, none⟩ v1).setCell ⟨g, 2, none⟩ v2).setCell ⟨g, 3, none⟩ v3) :=
  (((h.setCell (p := ⟨g, 0, none⟩) hg _).setCell (p := ⟨g, 1, none⟩) hg _).setCell (p := ⟨g, 2, none⟩) hg _).setCell (p := ⟨g, 3, none⟩) hg _

/-- What the ranges of a unit's table keep to. -/
def RgFit (r : Rg) : Prop := 0 ≤ r.v ∧ r.v < 4 ∧ (r.k = 0 ∨ r.k = 1 → 0 ≤ r.a ∧ r.a < 16)
theorem RightU.fit {K S P V : Int} {L : List In4} {R : List Rg} (h : RightU K S P V L R) : ∀ i, i < R.length → RgFit (rg R i) := fun i hi => by
  have h1 := isTab_rg h.tab hi
  obtain ⟨g1, g2, g3, g4⟩ := h.rgs i hi
  have hv := h.v4
  have hk := h.k16
  have hs := h.s16
  simp [isRg] at h1
  refine ⟨by omega, by omega, fun hk => ?_⟩
  rcases hk with e | e
  · have := g3 e; omega
  · have := g4 e; omega

set_option maxRecDepth 100000 in
set_option maxHeartbeats 4000000 in
theorem ask_any (B : Nat) (s : St) (vo vs : Value) (R : List Rg) (ao : Option Addr) (cap i : Nat) (w : World) (h : StB w B s vo vs) (hE : s.env = unitEnv R (some (.slice ao R.length cap))) (hH : Held w ao R) (hF : ∀ i, i < R.length → RgFit (rg R i)) (hlen : R.length ≤ 1000) :
    Calls Tryd.prog 49 #[.pointer (some ⟨B, 0, none⟩), .int .i64 (i : Int)] w fun e w' =>
      e = .returned (.agg #[.int .i64 (toldTo R s.regs s.vars i 0 R.length), .int .i64 (toldTo R s.regs s.vars i 1 R.length), .int .i64 (toldTo R s.regs s.vars i 2 R.length), .int .i64 (toldTo R s.regs s.vars i 3 R.length)]) ∧ Below w.heap.size w w' := by
  have hB := h.lt
  have hnv : s.env.nv = 16 := by rw [hE]; rfl
  have c39 : w.cell? ⟨B, 39, none⟩ = some (.slice ao R.length cap) := by
    have := h.2.2.2.2.2.2.2.2.2.2 39 (by rw [hnv]; decide)
    rw [hE] at this
    exact this
  have KH := hide (fun (r : Rg) (w : World) (h : StB w B s vo vs) (ha : r.k = 0 ∨ r.k = 1 → 0 ≤ r.a ∧ r.a < 16) => held_any B s vo vs r w h hnv ha)
  have HS := hide h
  have HH := hide hH
  have HF := hide hF
  clear h hH hF hE
  go_enter Tryd.func49, Tryd.ntmps49
  go_wp2
  refine wp_loop_rounds 5 ?_
  iterate 4 (rw [rounds_succ]; go_wp2)
  rw [rounds_succ]
  go_wp2_with fail
  obtain ⟨w1, hw1⟩ : ∃ w1, w1 = (w.alloc (.cells #[.int .i64 0, .int .i64 0, .int .i64 0, .int .i64 0] 55)).alloc (.cells #[.int .i64 (-1), .int .i64 (-1), .int .i64 (-1), .int .i64 (-1)] 55) := ⟨_, rfl⟩
  rw [← hw1]
  have hz1 : w1.heap.size = w.heap.size + 2 := by rw [hw1]; simp
  have HB1 : Hid (Below w.heap.size w w1) := by rw [hw1]; exact ((Below.refl _ _).alloc (Nat.le_refl _) _).alloc (by simp) _
  have HD1 : Hid (Four w1 (w.heap.size + 1) (fun v => toldTo R s.regs s.vars i v 0)) := by
    refine four_row (t := 55) (a := .int .i64 (-1)) (b := .int .i64 (-1)) (c := .int .i64 (-1)) (d := .int .i64 (-1)) ?_ rfl rfl rfl rfl
    have hh := heap_alloc_new (w.alloc (.cells #[.int .i64 0, .int .i64 0, .int .i64 0, .int .i64 0] 55)) (.cells #[.int .i64 (-1), .int .i64 (-1), .int .i64 (-1), .int .i64 (-1)] 55)
    rw [show (w.alloc (.cells #[.int .i64 0, .int .i64 0, .int .i64 0, .int .i64 0] 55)).heap.size = w.heap.size + 1 by simp] at hh
    rw [hw1]; exact hh
  have HR1 : Hid (w1.heap[w.heap.size]? = some (.cells #[.int .i64 0, .int .i64 0, .int .i64 0, .int .i64 0] 55 (0, 0))) := by
    rw [hw1]; exact (Below.heap_alloc _ _ _ (by simp)).trans (heap_alloc_new _ _)
  clear hw1
  go_loopw [7] (fun j wr => ∃ k : Nat, k ≤ R.length ∧ j = .int .i64 k ∧ Hid (Four wr (w.heap.size + 1) (fun v => toldTo R s.regs s.vars i v k)) ∧ Hid (Below (w.heap.size + 1) w1 wr)) (fun j _ => R.length - (intOf j).toNat)
  case atStart => exact ⟨0, Nat.zero_le _, rfl, unhide HD1, Below.refl _ _⟩
  case round =>
    obtain ⟨k, hk, rfl, HD, HB⟩ := hrel
    have hBs := (unhide HB).size
    have HBr : Hid (Below w.heap.size w wr) := (unhide HB1).trans ((unhide HB).mono (by omega))
    have d39 := ((unhide HBr).cell (p := ⟨B, 39, none⟩) hB).trans c39
    have hDl : w.heap.size + 1 < wr.heap.size := (unhide HD).lt
    by_cases hlt : k < R.length
    case neg =>
      obtain rfl : k = R.length := by omega
      obtain ⟨x0, hx0⟩ : ∃ x, x = toldTo R s.regs s.vars i 0 R.length := ⟨_, rfl⟩
      obtain ⟨x1, hx1⟩ : ∃ x, x = toldTo R s.regs s.vars i 1 R.length := ⟨_, rfl⟩
      obtain ⟨x2, hx2⟩ : ∃ x, x = toldTo R s.regs s.vars i 2 R.length := ⟨_, rfl⟩
      obtain ⟨x3, hx3⟩ : ∃ x, x = toldTo R s.regs s.vars i 3 R.length := ⟨_, rfl⟩
      have t0 : wr.cell? ⟨w.heap.size + 1, 0, none⟩ = some (.int .i64 x0) := by rw [hx0]; exact (unhide HD).1 0 (by decide)
      have t1 : wr.cell? ⟨w.heap.size + 1, 1, none⟩ = some (.int .i64 x1) := by rw [hx1]; exact (unhide HD).1 1 (by decide)
      have t2 : wr.cell? ⟨w.heap.size + 1, 2, none⟩ = some (.int .i64 x2) := by rw [hx2]; exact (unhide HD).1 2 (by decide)
      have t3 : wr.cell? ⟨w.heap.size + 1, 3, none⟩ = some (.int .i64 x3) := by rw [hx3]; exact (unhide HD).1 3 (by decide)
      have HX := hide (And.intro hx0 (And.intro hx1 (And.intro hx2 hx3)))
      have hr := ((unhide HB).block w.heap.size (by omega)).trans (unhide HR1)
      have HRr := hide hr
      have n0 : wr.cell? ⟨w.heap.size, 0, none⟩ = some (.int .i64 0) := (cell_of_row wr _ 0 _ 55 (0, 0) hr).trans rfl
      have n1 : wr.cell? ⟨w.heap.size, 1, none⟩ = some (.int .i64 0) := (cell_of_row wr _ 1 _ 55 (0, 0) hr).trans rfl
      have n2 : wr.cell? ⟨w.heap.size, 2, none⟩ = some (.int .i64 0) := (cell_of_row wr _ 2 _ 55 (0, 0) hr).trans rfl
      have n3 : wr.cell? ⟨w.heap.size, 3, none⟩ = some (.int .i64 0) := (cell_of_row wr _ 3 _ 55 (0, 0) hr).trans rfl
      have nf : ∀ o, wr.frozen? ⟨w.heap.size, o, none⟩ = false := fun o => by simp [World.frozen?, hr]
      clear hx0 hx1 hx2 hx3 hr
      go_wp2_with fail
      refine bodyPost_ret (results_cell_row rfl _ _ w.heap.size 55 _ (0, 0) _ rfl (set4 (unhide HRr) _ _ _ _) Tryd.underlying55 rfl Tryd.size55) rfl ?_
      exact ⟨by rw [← (unhide HX).1, ← (unhide HX).2.1, ← (unhide HX).2.2.1, ← (unhide HX).2.2.2], below4 (unhide HBr) (Nat.le_refl _) _ _ _ _⟩
    obtain ⟨b, off, rfl, hb, hL⟩ : ∃ b off, ao = some ⟨b, off, none⟩ ∧ b < w.heap.size ∧ Lie w b off R := by
      rcases unhide HH with h | h
      · subst h; exact absurd hlt (by simp)
      · exact h
    obtain ⟨r, hr⟩ : ∃ r, r = rg R k := ⟨_, rfl⟩
    have hA := (hL k hlt).below (unhide HBr) hb
    have hfit := unhide HF k hlt
    rw [← hr] at hA hfit
    obtain ⟨c0, c1, c2, c3, c4⟩ := hA
    have HR := hide hr
    clear hr hL
    by_cases hcov : r.f ≤ (i : Int) ∧ (i : Int) < r.t
    case neg =>
      have HN : Hid (∀ v, toldTo R s.regs s.vars i v (k + 1) = toldTo R s.regs s.vars i v k) := fun v => toldTo_miss (fun h => hcov ⟨by have := h.2.1; rw [← unhide HR] at this; exact this, by have := h.2.2; rw [← unhide HR] at this; exact this⟩)
      rcases (show (i : Int) < r.f ∨ (r.f ≤ (i : Int) ∧ r.t ≤ (i : Int)) by omega) with h | ⟨h, h'⟩
      all_goals
        clear hcov hfit
        go_wp2_with fail
        go_roundw
        case rel => exact ⟨k + 1, by omega, by go_num, ((unhide HD).of_block (Below.heap_alloc _ _ _ hDl)).to (fun v _ => unhide HN v), (unhide HB).alloc (by omega) _⟩
        case measure => simp [intOf]; omega
    obtain ⟨g1, g2⟩ := hcov
    obtain ⟨v0, v3, ha⟩ := hfit
    obtain ⟨vn, hvn⟩ : ∃ vn : Nat, r.v = (vn : Int) := ⟨r.v.toNat, by omega⟩
    have KC := hide (fun (w : World) (h : StB w B s vo vs) => unhide KH r w h ha)
    obtain ⟨y, hy⟩ : ∃ y, y = heldE s.regs s.vars r := ⟨_, rfl⟩
    rw [← hy] at KC
    have HN : Hid (∀ v, v < 4 → toldTo R s.regs s.vars i v (k + 1) = if v = vn then y else toldTo R s.regs s.vars i v k) := fun v _ => by
      by_cases e : v = vn
      · rw [if_pos e, toldTo_hit (show Hits (rg R k) i v by rw [← unhide HR]; exact ⟨by rw [hvn, e], g1, g2⟩), ← unhide HR, hy]
      · rw [if_neg e, toldTo_miss (fun h => e (by have := h.1; rw [← unhide HR] at this; omega))]
    have hv4 : vn < 4 := by omega
    have cd := (unhide HD).1 vn hv4
    have fd := (unhide HD).2
    rw [hvn] at c0 KC
    have HY := hide hy
    clear hvn ha hy KH
    go_wp2_with fail
    obtain ⟨w5, hw5⟩ : ∃ w5, w5 = wr.alloc (.cells #[.int .i64 (vn : Int), .int .i64 r.f, .int .i64 r.t, .int .i64 r.k, .int .i64 r.a] 109) := ⟨_, rfl⟩
    rw [← hw5]
    have q : ∀ o, w5.cell? ⟨wr.heap.size, o, none⟩ = #[Value.int .i64 (vn : Int), .int .i64 r.f, .int .i64 r.t, .int .i64 r.k, .int .i64 r.a][o]? := fun o => by rw [hw5]; exact World.cell?_alloc_at (hn := rfl) ..
    have q0 : w5.cell? ⟨wr.heap.size, 0, none⟩ = some (.int .i64 (vn : Int)) := (q 0).trans rfl
    have q1 : w5.cell? ⟨wr.heap.size, 1, none⟩ = some (.int .i64 r.f) := (q 1).trans rfl
    have q2 : w5.cell? ⟨wr.heap.size, 2, none⟩ = some (.int .i64 r.t) := (q 2).trans rfl
    have q3 : w5.cell? ⟨wr.heap.size, 3, none⟩ = some (.int .i64 r.k) := (q 3).trans rfl
    have q4 : w5.cell? ⟨wr.heap.size, 4, none⟩ = some (.int .i64 r.a) := (q 4).trans rfl
    have HD5 : Hid (Four w5 (w.heap.size + 1) (fun v => toldTo R s.regs s.vars i v k)) := by rw [hw5]; exact (unhide HD).of_block (Below.heap_alloc _ _ _ hDl)
    have HB5 : Hid (Below (w.heap.size + 1) w1 w5) := by rw [hw5]; exact (unhide HB).alloc (by omega) _
    have HS5 : Hid (StB w5 B s vo vs) := by rw [hw5]; exact ((unhide HS).of_block ((unhide HBr).block B hB)).of_block (Below.heap_alloc _ _ _ (Nat.lt_of_lt_of_le hB (unhide HBr).size))
    have hz5 : wr.heap.size < w5.heap.size := by rw [hw5]; simp
    have cd5 := (unhide HD5).1 vn hv4
    have fd5 := (unhide HD5).2
    have hD5 : w.heap.size + 1 < w5.heap.size := by omega
    have hne : wr.heap.size ≠ w.heap.size + 1 := by omega
    have hk5 : ∀ (wq : World) (o : Nat) (z : Value), (wq.setCell ⟨w.heap.size + 1, vn, none⟩ z).cell? ⟨wr.heap.size, o, none⟩ = wq.cell? ⟨wr.heap.size, o, none⟩ := fun wq o z => World.cell?_setCell_other _ _ _ _ (fun e => by injection e with e1; omega)
    clear hw5 q c0 c1 c2 c3 c4 cd fd HD HB
    have v4 : (vn : Int) < 4 := by omega
    go_region_held3 (fun w' => w'.cell? ⟨wr.heap.size, 0, none⟩ = some (.int .i64 (vn : Int)) ∧ w'.cell? ⟨wr.heap.size, 1, none⟩ = some (.int .i64 r.f) ∧ w'.cell? ⟨wr.heap.size, 2, none⟩ = some (.int .i64 r.t) ∧ w'.cell? ⟨wr.heap.size, 3, none⟩ = some (.int .i64 r.k) ∧ w'.cell? ⟨wr.heap.size, 4, none⟩ = some (.int .i64 r.a)) (first | (simp [*]; done) | (refine ⟨?_, ?_, ?_, ?_, ?_⟩ <;> assumption))
      ((go_at_call 68; refine (unhide KC _ ?_).mono ?_; exact (unhide HS5).drew; rintro e w6 ⟨rfl, hb6⟩; have x0 := (hb6.cell (p := ⟨wr.heap.size, 0, none⟩) hz5).trans q0; have x1 := (hb6.cell (p := ⟨wr.heap.size, 1, none⟩) hz5).trans q1; have x2 := (hb6.cell (p := ⟨wr.heap.size, 2, none⟩) hz5).trans q2; have x3 := (hb6.cell (p := ⟨wr.heap.size, 3, none⟩) hz5).trans q3; have x4 := (hb6.cell (p := ⟨wr.heap.size, 4, none⟩) hz5).trans q4; have cd6 := (hb6.cell (p := ⟨w.heap.size + 1, vn, none⟩) hD5).trans cd5; have fd6 : w6.frozen? ⟨w.heap.size + 1, vn, none⟩ = false := (hb6.frozen (p := ⟨w.heap.size + 1, vn, none⟩) hD5).trans (fd5 vn); have HD6 := hide ((unhide HD5).of_block (hb6.block (w.heap.size + 1) hD5)); have HB6 := hide ((unhide HB5).drew.trans (hb6.mono (show w.heap.size + 1 ≤ w5.heap.size by omega))); clear hb6))
    go_wp2_with fail
    go_roundw
    case rel => exact ⟨k + 1, by omega, by go_num, (unhide HD6).set vn hv4 y (unhide HN), (unhide HB6).setCell (p := ⟨w.heap.size + 1, vn, none⟩) (Nat.le_refl _) _⟩
    case measure => simp [intOf]; omega
end Go.Proofs.YtoepcplbpochpabDoor
