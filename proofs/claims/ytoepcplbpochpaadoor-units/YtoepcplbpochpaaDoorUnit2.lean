/-
  A run of a program as plain data: what is held between two instructions, what an instruction makes of it, what a run comes to; and how the program's own run lies in memory.
-/
import Derived.Test.YtoepcplbpochpaaDoorUnit1

namespace Go.Proofs.YtoepcplbpochpaaDoor
open Go.RowKit

/-- What is seen at a Stop. -/
structure Sn where
  no : Int
  v0 : Int
  v1 : Int
  v2 : Int
  v3 : Int
def Sn.cells (x : Sn) : List Value := [.int .i64 x.no, .int .i64 x.v0, .int .i64 x.v1, .int .i64 x.v2, .int .i64 x.v3]
def snCells (l : List Sn) : List Value := l.flatMap Sn.cells
def intCells (l : List Int) : List Value := l.map (Value.int .i64)
theorem snCells_len (l : List Sn) : (snCells l).length = l.length * 5 := by
  unfold snCells
  induction l with
  | nil => rfl
  | cons r l ih => rw [List.flatMap_cons, List.length_append, ih, List.length_cons]; show 5 + _ = _; omega
theorem snCells_snoc (l : List Sn) (r : Sn) : snCells (l ++ [r]) = snCells l ++ r.cells := by unfold snCells; rw [List.flatMap_append]; simp
theorem intCells_len (l : List Int) : (intCells l).length = l.length := by unfold intCells; rw [List.length_map]
theorem intCells_snoc (l : List Int) (r : Int) : intCells (l ++ [r]) = intCells l ++ [.int .i64 r] := by unfold intCells; rw [List.map_append]; rfl

/-- What a run has for good: how many cells stand behind those that all runs have (a program's variables, a unit's slots), where the document's moment keeps them, what stands behind them in the program's own run, what is told of a variable at a Stop. -/
structure Env where
  nv : Nat
  vc : Nat
  ex : Nat → Option Value
  eye : (Nat → Int) → (Nat → Int) → Nat → Nat → Int
def progEnv : Env := ⟨4, 3, fun _ => none, fun _ vars _ v => vars v⟩

structure St where
  at_ : Nat
  regs : Nat → Int
  vars : Nat → Int
  on : Bool
  kind : Int
  val : Int
  steps : Nat
  outs : List Int
  stops : List Sn
  env : Env

def St.tell (s : St) (v : Nat) : Int := s.env.eye s.regs s.vars s.at_ v
def upd (f : Nat → Int) (i : Nat) (v : Int) : Nat → Int := fun j => if j = i then v else f j
theorem upd_same (f : Nat → Int) (i : Nat) (v : Int) : upd f i v i = v := by unfold upd; rw [if_pos rfl]
theorem upd_other (f : Nat → Int) {i j : Nat} (v : Int) (h : j ≠ i) : upd f i v j = f j := by unfold upd; rw [if_neg h]

def St.ended (s : St) (k v : Int) : St := { s with on := false, kind := k, val := v }
def St.reg (s : St) (d : Nat) (v : Int) : St := { s with regs := upd s.regs d v }
def St.goto (s : St) (p : Nat) : St := { s with at_ := p }
def St.var (s : St) (d : Nat) (v : Int) : St := { s with vars := upd s.vars d v }
def St.out (s : St) (v : Int) : St := { s with outs := s.outs ++ [v] }
def St.see (s : St) (n : Int) : St := { s with stops := s.stops ++ [⟨n, s.tell 0, s.tell 1, s.tell 2, s.tell 3⟩] }
def St.next (s : St) : St := { s with steps := s.steps + 1, at_ := s.at_ + 1 }
/-- The arithmetic. -/
def St.reckon (s : St) (op : Int) (d a b : Nat) : St :=
  if reachE op (s.regs a) (s.regs b) < 0 then s.ended 1 0 else s.reg d (reachE op (s.regs a) (s.regs b))

/-- What programs and units have in common. -/
def doSt (x : In4) (s : St) : St :=
  if x.op = 0 then s.next.reg x.d.toNat x.a else
  if x.op = 1 then s.next.reg x.d.toNat (s.regs x.a.toNat) else
  if x.op = 7 then s.next.goto x.a.toNat else
  if x.op = 8 then (if s.regs x.a.toNat = 0 then s.next else s.next.goto x.b.toNat) else
  if x.op = 9 then s.next.out (s.regs x.a.toNat) else
  if x.op = 10 then s.next.ended 0 (s.regs x.a.toNat) else
  if 2 ≤ x.op ∧ x.op ≤ 6 then s.next.reckon x.op x.d.toNat x.a.toNat x.b.toNat else s.next
def preSt (x : In4) (s : St) : St :=
  if x.op = 11 then s.see x.a else
  if x.op = 12 then s.var x.d.toNat (s.regs x.a.toNat) else
  if x.op = 13 then s.var x.d.toNat x.a else
  if x.op = 14 then s.var x.d.toNat (-1) else
  if x.op = 15 then s.reg x.d.toNat (s.vars x.a.toNat) else
  if x.op = 16 then s.var x.d.toNat (s.regs x.a.toNat) else s
def stepSt (x : In4) (s : St) : St := doSt x (preSt x s)

/-- As many instructions as the fuel allows. -/
def runSt (L : List In4) : Nat → St → St
  | 0, s => s
  | m + 1, s => if s.on then runSt L m (stepSt (inAt L s.at_) s) else s

/-- What an instruction of a right program, or of a right unit (V: its slots), keeps to. -/
def Right (R n V : Int) (x : In4) : Prop :=
  0 ≤ x.op ∧ x.op ≤ 16 ∧
  ((x.op = 0 ∨ x.op = 1 ∨ (2 ≤ x.op ∧ x.op ≤ 6)) → 0 ≤ x.d ∧ x.d < R) ∧
  ((x.op = 1 ∨ (2 ≤ x.op ∧ x.op ≤ 6) ∨ x.op = 8 ∨ x.op = 9 ∨ x.op = 10 ∨ x.op = 12) → 0 ≤ x.a ∧ x.a < R) ∧
  ((2 ≤ x.op ∧ x.op ≤ 6) → 0 ≤ x.b ∧ x.b < R) ∧
  ((x.op = 0 ∨ x.op = 13) → 0 ≤ x.a ∧ x.a ≤ 65535) ∧
  (x.op = 7 → 0 ≤ x.a ∧ x.a < n) ∧ (x.op = 8 → 0 ≤ x.b ∧ x.b < n) ∧
  (x.op = 11 → 0 ≤ x.a ∧ x.a ≤ 99) ∧
  ((12 ≤ x.op ∧ x.op ≤ 14) → 0 ≤ x.d ∧ x.d < V) ∧
  (x.op = 15 → (0 ≤ x.d ∧ x.d < R) ∧ 0 ≤ x.a ∧ x.a < V) ∧
  (x.op = 16 → (0 ≤ x.d ∧ x.d < V) ∧ 0 ≤ x.a ∧ x.a < R)

/-- The run's block. -/
def StB (w : World) (B : Nat) (s : St) (vo vs : Value) : Prop :=
  (∀ i, i < 16 → w.cell? ⟨B, i, none⟩ = some (.int .i64 (s.regs i))) ∧ (∀ i, i < s.env.nv → w.cell? ⟨B, 23 + i, none⟩ = some (.int .i64 (s.vars i))) ∧
  w.cell? ⟨B, 16, none⟩ = some (.int .i64 (s.at_ : Int)) ∧ w.cell? ⟨B, 17, none⟩ = some (.bool s.on) ∧ w.cell? ⟨B, 18, none⟩ = some (.int .i64 s.kind) ∧
  w.cell? ⟨B, 19, none⟩ = some (.int .i64 s.val) ∧ w.cell? ⟨B, 20, none⟩ = some (.int .i64 (s.steps : Int)) ∧ w.cell? ⟨B, 21, none⟩ = some vo ∧ w.cell? ⟨B, 22, none⟩ = some vs ∧
  (∀ o, w.frozen? ⟨B, o, none⟩ = false) ∧ (∀ o, 23 + s.env.nv ≤ o → w.cell? ⟨B, o, none⟩ = s.env.ex o)

theorem StB.lt {w : World} {B : Nat} {s : St} {vo vs : Value} (h : StB w B s vo vs) : B < w.heap.size := World.block_lt_of_cell? w ⟨B, 16, none⟩ h.2.2.1

/-- The run's block is as it was where the block is as it was. -/
theorem StB.of_block {w w' : World} {B : Nat} {s : St} {vo vs : Value} (h : StB w B s vo vs) (hb : w'.heap[B]? = w.heap[B]?) : StB w' B s vo vs := by
  have c : ∀ o, w'.cell? ⟨B, o, none⟩ = w.cell? ⟨B, o, none⟩ := fun o => World.cell?_of_block hb
  have f : ∀ o, w'.frozen? ⟨B, o, none⟩ = w.frozen? ⟨B, o, none⟩ := fun o => World.frozen?_of_block hb
  obtain ⟨h0, h1, h2, h3, h4, h5, h6, h7, h8, h9, hx⟩ := h
  exact ⟨fun i hi => (c _).trans (h0 i hi), fun i hi => (c _).trans (h1 i hi), (c _).trans h2, (c _).trans h3, (c _).trans h4, (c _).trans h5, (c _).trans h6, (c _).trans h7, (c _).trans h8, fun o => (f o).trans (h9 o), fun o ho => (c _).trans (hx o ho)⟩

theorem cell_set {w : World} {B i o : Nat} {v u : Value} (h : w.cell? ⟨B, o, none⟩ = some u) (hne : o ≠ i) : (w.setCell ⟨B, i, none⟩ v).cell? ⟨B, o, none⟩ = some u := by
  rw [World.cell?_setCell_other _ _ _ _ (fun e => hne (by injection e with e1 e2; omega))]; exact h
theorem cell_put {w : World} {B i : Nat} {v u : Value} (h : w.cell? ⟨B, i, none⟩ = some u) : (w.setCell ⟨B, i, none⟩ v).cell? ⟨B, i, none⟩ = some v :=
  World.cell?_setCell_same' _ _ _ (by rw [h]; rfl)
theorem frozen_set {w : World} {B i : Nat} {v : Value} (h : ∀ o, w.frozen? ⟨B, o, none⟩ = false) : ∀ o, (w.setCell ⟨B, i, none⟩ v).frozen? ⟨B, o, none⟩ = false := fun o => by
  rw [World.frozen?_setCell]; exact h o

theorem ex_set {w : World} {B i m : Nat} {v : Value} {ex : Nat → Option Value} (h : ∀ o, m ≤ o → w.cell? ⟨B, o, none⟩ = ex o) (hi : i < m) : ∀ o, m ≤ o → (w.setCell ⟨B, i, none⟩ v).cell? ⟨B, o, none⟩ = ex o := fun o ho => by
  rw [World.cell?_setCell_other _ _ _ _ (fun e => by injection e with e1 e2; omega)]; exact h o ho

theorem StB.set_reg {w : World} {B : Nat} {s : St} {vo vs : Value} (h : StB w B s vo vs) (d : Nat) (hd : d < 16) (v : Int) : StB (w.setCell ⟨B, d, none⟩ (.int .i64 v)) B (s.reg d v) vo vs := by
  obtain ⟨h0, h1, h2, h3, h4, h5, h6, h7, h8, h9, hx⟩ := h
  refine ⟨fun i hi => ?_, fun i hi => cell_set (h1 i hi) (by omega), cell_set h2 (by omega), cell_set h3 (by omega), cell_set h4 (by omega), cell_set h5 (by omega), cell_set h6 (by omega), cell_set h7 (by omega), cell_set h8 (by omega), frozen_set h9, ex_set hx (by omega)⟩
  by_cases hid : i = d
  · subst hid; rw [cell_put (h0 i hi)]; show _ = some (Value.int .i64 (upd s.regs i v i)); rw [upd_same]
  · rw [cell_set (h0 i hi) hid]; show _ = some (Value.int .i64 (upd s.regs d v i)); rw [upd_other _ _ hid]
theorem StB.set_var {w : World} {B : Nat} {s : St} {vo vs : Value} (h : StB w B s vo vs) (d : Nat) (hd : d < s.env.nv) (v : Int) : StB (w.setCell ⟨B, 23 + d, none⟩ (.int .i64 v)) B (s.var d v) vo vs := by
  obtain ⟨h0, h1, h2, h3, h4, h5, h6, h7, h8, h9, hx⟩ := h
  refine ⟨fun i hi => cell_set (h0 i hi) (by omega), fun i hi => ?_, cell_set h2 (by omega), cell_set h3 (by omega), cell_set h4 (by omega), cell_set h5 (by omega), cell_set h6 (by omega), cell_set h7 (by omega), cell_set h8 (by omega), frozen_set h9, ex_set hx (show 23 + d < 23 + s.env.nv by omega)⟩
  by_cases hid : i = d
  · subst hid; rw [cell_put (h1 i hi)]; show _ = some (Value.int .i64 (upd s.vars i v i)); rw [upd_same]
  · rw [cell_set (h1 i hi) (by omega)]; show _ = some (Value.int .i64 (upd s.vars d v i)); rw [upd_other _ _ hid]
theorem StB.set_next {w : World} {B : Nat} {s : St} {vo vs : Value} (h : StB w B s vo vs) : StB ((w.setCell ⟨B, 20, none⟩ (.int .i64 ((s.steps : Int) + 1))).setCell ⟨B, 16, none⟩ (.int .i64 ((s.at_ : Int) + 1))) B s.next vo vs := by
  obtain ⟨h0, h1, h2, h3, h4, h5, h6, h7, h8, h9, hx⟩ := h
  refine ⟨fun i hi => cell_set (cell_set (h0 i hi) (by omega)) (by omega), fun i hi => cell_set (cell_set (h1 i hi) (by omega)) (by omega), ?_, cell_set (cell_set h3 (by omega)) (by omega), cell_set (cell_set h4 (by omega)) (by omega), cell_set (cell_set h5 (by omega)) (by omega), cell_set ?_ (by omega), cell_set (cell_set h7 (by omega)) (by omega), cell_set (cell_set h8 (by omega)) (by omega), frozen_set (frozen_set h9), ex_set (ex_set hx (by omega)) (by omega)⟩
  · rw [cell_put (cell_set h2 (by omega))]; show _ = some (Value.int .i64 ((s.at_ + 1 : Nat) : Int)); rw [Int.natCast_succ]
  · rw [cell_put h6]; show _ = some (Value.int .i64 ((s.steps + 1 : Nat) : Int)); rw [Int.natCast_succ]
theorem StB.set_at {w : World} {B : Nat} {s : St} {vo vs : Value} (h : StB w B s vo vs) (p : Nat) : StB (w.setCell ⟨B, 16, none⟩ (.int .i64 (p : Int))) B (s.goto p) vo vs := by
  obtain ⟨h0, h1, h2, h3, h4, h5, h6, h7, h8, h9, hx⟩ := h
  exact ⟨fun i hi => cell_set (h0 i hi) (by omega), fun i hi => cell_set (h1 i hi) (by omega), cell_put h2, cell_set h3 (by omega), cell_set h4 (by omega), cell_set h5 (by omega), cell_set h6 (by omega), cell_set h7 (by omega), cell_set h8 (by omega), frozen_set h9, ex_set hx (by omega)⟩
theorem StB.set_end {w : World} {B : Nat} {s : St} {vo vs : Value} (h : StB w B s vo vs) (k v : Int) : StB (((w.setCell ⟨B, 17, none⟩ (.bool false)).setCell ⟨B, 18, none⟩ (.int .i64 k)).setCell ⟨B, 19, none⟩ (.int .i64 v)) B (s.ended k v) vo vs := by
  obtain ⟨h0, h1, h2, h3, h4, h5, h6, h7, h8, h9, hx⟩ := h
  have t : ∀ {o : Nat} {u : Value}, w.cell? ⟨B, o, none⟩ = some u → o ≠ 17 → o ≠ 18 → o ≠ 19 → (((w.setCell ⟨B, 17, none⟩ (.bool false)).setCell ⟨B, 18, none⟩ (.int .i64 k)).setCell ⟨B, 19, none⟩ (.int .i64 v)).cell? ⟨B, o, none⟩ = some u := fun h a b c => cell_set (cell_set (cell_set h a) b) c
  exact ⟨fun i hi => t (h0 i hi) (by omega) (by omega) (by omega), fun i hi => t (h1 i hi) (by omega) (by omega) (by omega), t h2 (by omega) (by omega) (by omega), cell_set (cell_set (cell_put h3) (by omega)) (by omega), cell_set (cell_put (cell_set h4 (by omega))) (by omega), cell_put (cell_set (cell_set h5 (by omega)) (by omega)), t h6 (by omega) (by omega) (by omega), t h7 (by omega) (by omega) (by omega), t h8 (by omega) (by omega) (by omega), frozen_set (frozen_set (frozen_set h9)), ex_set (ex_set (ex_set hx (by omega)) (by omega)) (by omega)⟩
theorem StB.set_outs {w : World} {B : Nat} {s : St} {vo vs : Value} (h : StB w B s vo vs) (vo' : Value) (v : Int) : StB (w.setCell ⟨B, 21, none⟩ vo') B (s.out v) vo' vs := by
  obtain ⟨h0, h1, h2, h3, h4, h5, h6, h7, h8, h9, hx⟩ := h
  exact ⟨fun i hi => cell_set (h0 i hi) (by omega), fun i hi => cell_set (h1 i hi) (by omega), cell_set h2 (by omega), cell_set h3 (by omega), cell_set h4 (by omega), cell_set h5 (by omega), cell_set h6 (by omega), cell_put h7, cell_set h8 (by omega), frozen_set h9, ex_set hx (by omega)⟩
theorem StB.set_stops {w : World} {B : Nat} {s : St} {vo vs : Value} (h : StB w B s vo vs) (vs' : Value) (n : Int) : StB (w.setCell ⟨B, 22, none⟩ vs') B (s.see n) vo vs' := by
  obtain ⟨h0, h1, h2, h3, h4, h5, h6, h7, h8, h9, hx⟩ := h
  exact ⟨fun i hi => cell_set (h0 i hi) (by omega), fun i hi => cell_set (h1 i hi) (by omega), cell_set h2 (by omega), cell_set h3 (by omega), cell_set h4 (by omega), cell_set h5 (by omega), cell_set h6 (by omega), cell_set h7 (by omega), cell_put h8, frozen_set h9, ex_set hx (by omega)⟩

/-- Every block but the named ones is as it was. -/
structure Keep (S : Nat → Prop) (w w' : World) : Prop where
  os : w'.os = w.os
  tape : w'.tape = w.tape
  output : w'.output = w.output
  size : w.heap.size ≤ w'.heap.size
  block : ∀ k, k < w.heap.size → ¬ S k → w'.heap[k]? = w.heap[k]?
theorem Keep.refl (S : Nat → Prop) (w : World) : Keep S w w := ⟨rfl, rfl, rfl, Nat.le_refl _, fun _ _ _ => rfl⟩
theorem Keep.trans {S T : Nat → Prop} {a b c : World} (h : Keep S a b) (k : Keep T b c) (hT : ∀ i, i < a.heap.size → T i → S i) : Keep S a c :=
  ⟨k.os.trans h.os, k.tape.trans h.tape, k.output.trans h.output, Nat.le_trans h.size k.size, fun i hi hn => (k.block i (Nat.lt_of_lt_of_le hi h.size) (fun t => hn (hT i hi t))).trans (h.block i hi hn)⟩
theorem Keep.mono {S T : Nat → Prop} {a b : World} (h : Keep S a b) (hT : ∀ i, i < a.heap.size → S i → T i) : Keep T a b :=
  ⟨h.os, h.tape, h.output, h.size, fun i hi hn => h.block i hi (fun s => hn (hT i hi s))⟩
theorem Keep.drew {S : Nat → Prop} {a w : World} (h : Keep S a w) : Keep S a w.drew := ⟨h.os, h.tape, h.output, h.size, h.block⟩
theorem Keep.drewN {S : Nat → Prop} {a w : World} (h : Keep S a w) (n : Nat) : Keep S a (w.drewN n) := ⟨h.os, h.tape, h.output, h.size, h.block⟩
theorem Keep.alloc {S : Nat → Prop} {a w : World} (h : Keep S a w) (o : Obj) : Keep S a (w.alloc o) :=
  h.trans (T := fun _ => False) ⟨rfl, rfl, rfl, by simp, fun k hk _ => Below.heap_alloc _ _ _ hk⟩ (fun _ _ h => h.elim)
theorem Keep.setCell {S : Nat → Prop} {a w : World} (h : Keep S a w) {p : Addr} (hp : S p.block) (u : Value) : Keep S a (w.setCell p u) :=
  h.trans (T := fun k => k = p.block) ⟨rfl, rfl, rfl, by simp [World.setCell], fun k _ hn => Below.heap_setCell _ _ _ _ hn⟩ (fun i _ e => e ▸ hp)
theorem Keep.grown {S : Nat → Prop} {a w w' : World} {row : Option Nat} (h : Keep S a w) (hg : w.grownBy w' row) (hr : ∀ k, row = some k → k < a.heap.size → S k) : Keep S a w' :=
  h.trans (T := fun k => row = some k) ⟨hg.os, hg.tape, hg.output, hg.size, fun k hk hn => hg.block k hk (fun e => hn e.symm)⟩ (fun i hi e => hr i e hi)
theorem Keep.below {S : Nat → Prop} {w w' : World} (h : Keep S w w') {B : Nat} (hB : B ≤ w.heap.size) (hS : ∀ k, k < B → ¬ S k) : Below B w w' :=
  ⟨h.os, h.tape, h.output, h.size, fun k hk => h.block k (Nat.lt_of_lt_of_le hk hB) (hS k hk)⟩
theorem Keep.of_below {w w' : World} (h : Below w.heap.size w w') (S : Nat → Prop) : Keep S w w' := ⟨h.os, h.tape, h.output, h.size, fun k hk _ => h.block k hk⟩

/-- A row that the run owns stays where its block is not among the named ones. -/
theorem own_keep {S : Nat → Prop} {w w' : World} {base : Nat} {e : TypeId} {size n : Nat} {v : Value} {xs : List Value} (h : w.ownsRow base e size v n xs) (hk : Keep S w w') (hS : ∀ g, v.ownBlock = some g → ¬ S g) : w'.ownsRow base e size v n xs := by
  refine ⟨h.1, ?_⟩
  rcases h.2 with h2 | ⟨g, cap, cur, h1, h2, h3, h4⟩
  · exact .inl h2
  · exact .inr ⟨g, cap, cur, h1, h2, by rw [hk.block g (Array.getElem?_eq_some_iff.1 h3).1 (hS g (by rw [h1]; rfl))]; exact h3, h4⟩
/-- Rows of two types lie apart. -/
theorem own_apart {w : World} {base base' : Nat} {e e' : TypeId} {size size' n n' : Nat} {v v' : Value} {xs xs' : List Value} (h : w.ownsRow base e size v n xs) (h' : w.ownsRow base' e' size' v' n' xs') (he : e ≠ e') : ∀ g, v.ownBlock = some g → v'.ownBlock ≠ some g := by
  intro g hg hg'
  rcases h.2 with ⟨rfl, _⟩ | ⟨g1, cap, cur, rfl, _, h3, _⟩
  · cases hg
  rcases h'.2 with ⟨rfl, _⟩ | ⟨g2, cap', cur', rfl, _, h3', _⟩
  · cases hg'
  cases hg
  have e2 : g2 = g1 := by injection hg'
  subst e2
  rw [h3] at h3'
  injection h3' with h4
  injection h4 with _ h5
  exact he h5
theorem own_in {w : World} {base : Nat} {e : TypeId} {size n : Nat} {v : Value} {xs : List Value} (h : w.ownsRow base e size v n xs) : ∀ g, v.ownBlock = some g → base ≤ g ∧ g < w.heap.size := h.lt
end Go.Proofs.YtoepcplbpochpaaDoor
