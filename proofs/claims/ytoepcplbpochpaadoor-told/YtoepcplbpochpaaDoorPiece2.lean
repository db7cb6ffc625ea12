/-
  A run of a program as plain data: what is held between two instructions, what an instruction makes of it, what a run comes to; and how the program's own run lies in memory.
-/
import Derived.Test.YtoepcplbpochpaaDoorPiece1

namespace Go.Proofs.YtoepcplbpochpaaDoor
open Go.RowKit

/-- What is seen at a Stop. -/
structure Sn where
  no : Int
  v0 : Int
  v1 : Int
  v2 : Int
  v3 : Int
def Sn.cells (x : Sn) : List Value := [.int .i64 x.no, .int .i64 x.v0, .int .i64 x.v1, .int .i64 x.v2, .int .i64 x.v3]
def snCells (l : List Sn) : List Value := l.flatMap Sn.cells
def intCells (l : List Int) : List Value := l.map (Value.int .i64)
theorem snCells_len (l : List Sn) : (snCells l).length = l.length * 5 := by
  unfold snCells
  induction l with
  | nil => rfl
  | cons r l ih => rw [List.flatMap_cons, List.length_append, ih, List.length_cons]; show 5 + _ = _; omega
theorem snCells_snoc (l : List Sn) (r : Sn) : snCells (l ++ [r]) = snCells l ++ r.cells := by unfold snCells; rw [List.flatMap_append]; simp
theorem intCells_len (l : List Int) : (intCells l).length = l.length := by unfold intCells; rw [List.length_map]
theorem intCells_snoc (l : List Int) (r : Int) : intCells (l ++ [r]) = intCells l ++ [.int .i64 r] := by unfold intCells; rw [List.map_append]; rfl

/-- What a run has for good: how many cells stand behind those that all runs have (a program's variables, a unit's slots), where the document's moment keeps them, what stands behind them in the program's own run, what is told of a variable at a Stop. -/
structure Env where
  nv : Nat
  vc : Nat
  ex : Nat → Option Value
  eye : (Nat → Int) → (Nat → Int) → Nat → Nat → Int
def progEnv : Env := ⟨4, 3, fun _ => none, fun _ vars _ v => vars v⟩

structure St where
  at_ : Nat
  regs : Nat → Int
  vars : Nat → Int
  on : Bool
  kind : Int
  val : Int
  steps : Nat
  outs : List Int
  stops : List Sn
  env : Env

def St.tell (s : St) (v : Nat) : Int := s.env.eye s.regs s.vars s.at_ v
def upd (f : Nat → Int) (i : Nat) (v : Int) : Nat → Int := fun j => if j = i then v else f j
theorem upd_same (f : Nat → Int) (i : Nat) (v : Int) : upd f i v i = v := by unfold upd; rw [if_pos rfl]
theorem upd_other (f : Nat → Int) {i j : Nat} (v : Int) (h : j ≠ i) : upd f i v j = f j := by unfold upd; rw [if_neg h]

def St.ended (s : St) (k v : Int) : St := { s with on := false, kind := k, val := v }
def St.reg (s : St) (d : Nat) (v : Int) : St := { s with regs := upd s.regs d v }
def St.goto (s : St) (p : Nat) : St := { s with at_ := p }
def St.var (s : St) (d : Nat) (v : Int) : St := { s with vars := upd s.vars d v }
def St.out (s : St) (v : Int) : St := { s with outs := s.outs ++ [v] }
def St.see (s : St) (n : Int) : St := { s with stops := s.stops ++ [⟨n, s.tell 0, s.tell 1, s.tell 2, s.tell 3⟩] }
def St.next (s : St) : St := { s with steps := s.steps + 1, at_ := s.at_ + 1 }
/-- The arithmetic. -/
def St.reckon (s : St) (op : Int) (d a b : Nat) : St :=
  if reachE op (s.regs a) (s.regs b) < 0 then s.ended 1 0 else s.reg d (reachE op (s.regs a) (s.regs b))

/-- What programs and units have in common. -/
def doSt (x : In4) (s : St) : St :=
  if x.op = 0 then s.next.reg x.d.toNat x.a else
  if x.op = 1 then s.next.reg x.d.toNat (s.regs x.a.toNat) else
  if x.op = 7 then s.next.goto x.a.toNat else
  if x.op = 8 then (if s.regs x.a.toNat = 0 then s.next else s.next.goto x.b.toNat) else
  if x.op = 9 then s.next.out (s.regs x.a.toNat) else
  if x.op = 10 then s.next.ended 0 (s.regs x.a.toNat) else
  if 2 ≤ x.op ∧ x.op ≤ 6 then s.next.reckon x.op x.d.toNat x.a.toNat x.b.toNat else s.next
def preSt (x : In4) (s : St) : St :=
  if x.op = 11 then s.see x.a else
  if x.op = 12 then s.var x.d.toNat (s.regs x.a.toNat) else
  if x.op = 13 then s.var x.d.toNat x.a else
  if x.op = 14 then s.var x.d.toNat (-1) else
  if x.op = 15 then s.reg x.d.toNat (s.vars x.a.toNat) else
  if x.op = 16 then s.var x.d.toNat (s.regs x.a.toNat) else s
def stepSt (x : In4) (s : St) : St := doSt x (preSt x s)

/-- As many instructions as the fuel allows. -/
def runSt (L : List In4) : Nat → St → St
  | 0, s => s
  | m + 1, s => if s.on then runSt L m (stepSt (inAt L s.at_) s) else s

/-- What an instruction of a right program, or of a right unit (V: its slots), keeps to. -/
def Right (R n V : Int) (x : In4) : Prop :=
  0 ≤ x.op ∧ x.op ≤ 16 ∧
  ((x.op = 0 ∨ x.op = 1 ∨ (2 ≤ x.op ∧ x.op ≤ 6)) → 0 ≤ x.d ∧ x.d < R) ∧
  ((x.op = 1 ∨ (2 ≤ x.op ∧ x.op ≤ 6) ∨ x.op = 8 ∨ x.op = 9 ∨ x.op = 10 ∨ x.op = 12) → 0 ≤ x.a ∧ x.a < R) ∧
  ((2 ≤ x.op ∧ x.op ≤ 6) → 0 ≤ x.b ∧ x.b < R) ∧
  ((x.op = 0 ∨ x.op = 13) → 0 ≤ x.a ∧ x.a ≤ 65535) ∧
  (x.op = 7 → 0 ≤ x.a ∧ x.a < n) ∧ (x.op = 8 → 0 ≤ x.b ∧ x.b < n) ∧
  (x.op = 11 → 0 ≤ x.a ∧ x.a ≤ 99) ∧
  ((12 ≤ x.op ∧ x.op ≤ 14) → 0 ≤ x.d ∧ x.d < V) ∧
  (x.op = 15 → (0 ≤ x.d ∧ x.d < R) ∧ 0 ≤ x.a ∧ x.a < V) ∧
  (x.op = 16 → (0 ≤ x.d ∧ x.d < V) ∧ 0 ≤ x.a ∧ x.a < R)

/-- The run's block. -/
def StB (w : World) (B : Nat) (s : St) (vo vs : Value) : Prop :=
  (∀ i, i < 16 → w.cell? ⟨B, i, none⟩ = some (.int .i64 (s.regs i))) ∧ (∀ i, i < s.env.nv → w.cell? ⟨B, 23 + i, none⟩ = some (.int .i64 (s.vars i))) ∧
  w.cell? ⟨B, 16, none⟩ = some (.int .i64 (s.at_ : Int)) ∧ w.cell? ⟨B, 17, none⟩ = some (.bool s.on) ∧ w.cell? ⟨B, 18, none⟩ = some (.int .i64 s.kind) ∧
  w.cell? ⟨B, 19, none⟩ = some (.int .i64 s.val) ∧ w.cell? ⟨B, 20, none⟩ = some (.int .i64 (s.steps : Int)) ∧ w.cell? ⟨B, 21, none⟩ = some vo ∧ w.cell? ⟨B, 22, none⟩ = some vs ∧
  (∀ o, w.frozen? ⟨B, o, none⟩ = false) ∧ (∀ o, 23 + s.env.nv ≤ o → w.cell? ⟨B, o, none⟩ = s.env.ex o)

theorem StB.lt {w : World} {B : Nat} {s : St} {vo vs : Value} (h : StB w B s vo vs) : B < w.heap.size := World.block_lt_of_cell? w ⟨B, 16, none⟩ h.2.2.1

/-- The run's block is as it was where the block is as it was. -/
theorem StB.of_block {w w' : World} {B : Nat} {s : St} {vo vs : Value} (h : StB w B s vo vs) (hb : w'.heap[B]? = w.heap[B]?) : StB w' B s vo vs := by
  have c : ∀ o, w'.cell? ⟨B, o, none⟩ = w.cell? ⟨B, o, none⟩ := fun o => World.cell?_of_block hb
  have f : ∀ o, w'.frozen? ⟨B, o, none⟩ = w.frozen? ⟨B, o, none⟩ := fun o => World.frozen?_of_block hb
  obtain ⟨h0, h1, h2, h3, h4, h5, h6, h7, h8, h9, hx⟩ := h
  exact ⟨fun i hi => (c _).trans (h0 i hi), fun i hi => (c _).trans (h1 i hi), (c _).trans h2, (c _).trans h3, (c _).trans h4, (c _).trans h5, (c _).trans h6, (c _).trans h7, (c _).trans h8, fun o => (f o).trans (h9 o), fun o ho => (c _).trans (hx o ho)⟩

theorem cell_set {w : World} {B i o : Nat} {v u : Value} (h : w.cell? ⟨B, o, none⟩ = some u) (hne : o ≠ i) : (w.setCell ⟨B, i, none⟩ v).cell? ⟨B, o, none⟩ = some u := by
  rw [World.cell?_setCell_other _ _ _ _ (fun e => hne (by injection e with e1 e2; omega))]; exact h
theorem cell_put {w : World} {B i : Nat} {v u : Value} (h : w.cell? ⟨B, i, none⟩ = some u) : (w.setCell ⟨B, i, none⟩ v).cell? ⟨B, i, none⟩ = some v :=
  World.cell?_setCell_same' _ _ _ (by rw [h]; rfl)
theorem frozen_set {w : World} {B i : Nat} {v : Value} (h : ∀ o, w.frozen? ⟨B, o, none⟩ = false) : ∀ o, (w.setCell ⟨B, i, none⟩ v).frozen? ⟨B, o, none⟩ = false := fun o => by
  rw [World.frozen?_setCell]; exact h o

theorem ex_set {w : World} {B i m : Nat} {v : Value} {ex : Nat → Option Value} (h : ∀ o, m ≤ o → w.cell? ⟨B, o, none⟩ = ex o) (hi : i < m) : ∀ o, m ≤ o → (w.setCell ⟨B, i, none⟩ v).cell? ⟨B, o, none⟩ = ex o := fun o ho => by
  rw [World.cell?_setCell_other _ _ _ _ (fun e => by injection e with e1 e2; omega)]; exact h o ho

theorem StB.set_reg {w : World} {B : Nat} {s : St} {vo vs : Value} (h : StB w B s vo vs) (d : Nat) (hd : d < 16) (v : Int) : StB (w.setCell ⟨B, d, none⟩ (.int .i64 v)) B (s.reg d v) vo vs := by
  obtain ⟨h0, h1, h2, h3, h4, h5, h6, h7, h8, h9, hx⟩ := h
  refine ⟨fun i hi => ?_, fun i hi => cell_set (h1 i hi) (by omega), cell_set h2 (by omega), cell_set h3 (by omega), cell_set h4 (by omega), cell_set h5 (by omega), cell_set h6 (by omega), cell_set h7 (by omega), cell_set h8 (by omega), frozen_set h9, ex_set hx (by omega)⟩
  by_cases hid : i = d
  · subst hid; rw [cell_put (h0 i hi)]; show _ = some (Value.int .i64 (upd s.regs i v i)); rw [upd_same]
  · rw [cell_set (h0 i hi) hid]; show _ = some (Value.int .i64 (upd s.regs d v i)); rw [upd_other _ _ hid]
theorem StB.set_var {w : World} {B : Nat} {s : St} {vo vs : Value} (h : StB w B s vo vs) (d : Nat) (hd : d < s.env.nv) (v : Int) : StB (w.setCell ⟨B, 23 + d, none⟩ (.int .i64 v)) B (s.var d v) vo vs := by
  obtain ⟨h0, h1, h2, h3, h4, h5, h6, h7, h8, h9, hx⟩ := h
  refine ⟨fun i hi => cell_set (h0 i hi) (by omega), fun i hi => ?_, cell_set h2 (by omega), cell_set h3 (by omega), cell_set h4 (by omega), cell_set h5 (by omega), cell_set h6 (by omega), cell_set h7 (by omega), cell_set h8 (by omega), frozen_set h9, ex_set hx (show 23 + d < 23 + s.env.nv by omega)⟩
  by_cases hid : i = d
  · subst hid; rw [cell_put (h1 i hi)]; show _ = some (Value.int .i64 (upd s.vars i v i)); rw [upd_same]
  · rw [cell_set (h1 i hi) (by omega)]; show _ = some (Value.int .i64 (upd s.vars d v i)); rw [upd_other _ _ hid]
theorem StB.set_next {w : World} {B : Nat} {s : St} {vo vs : Value} (h : StB w B s vo vs) : StB ((w.setCell ⟨B, 20, none⟩ (.int .i64 ((s.steps : Int) + 1))).setCell ⟨B, 16, none⟩ (.int .i64 ((s.at_ : Int) + 1))) B s.next vo vs := by
  obtain ⟨h0, h1, h2, h3, h4, h5, h6, h7, h8, h9, hx⟩ := h
  refine ⟨fun i hi => cell_set (cell_set (h0 i hi) (by omega)) (by omega), fun i hi => cell_set (cell_set (h1 i hi) (by omega)) (by omega), ?_, cell_set (cell_set h3 (by omega)) (by omega), cell_set (cell_set h4 (by omega)) (by omega), cell_set (cell_set h5 (by omega)) (by omega), cell_set ?_ (by omega), cell_set (cell_set h7 (by omega)) (by omega), cell_set (cell_set h8 (by omega)) (by omega), frozen_set (frozen_set h9), ex_set (ex_set hx (by omega)) (by omega)⟩
  · rw [cell_put (cell_set h2 (by omega))]; show _ = some (Value.int .i64 ((s.at_ + 1 : Nat) : Int)); rw [Int.natCast_succ]
  · rw [cell_put h6]; show _ = some (Value.int .i64 ((s.steps + 1 : Nat) : Int)); rw [Int.natCast_succ]
theorem StB.set_at {w : World} {B : Nat} {s : St} {vo vs : Value} (h : StB w B s vo vs) (p : Nat) : StB (w.setCell ⟨B, 16, none⟩ (.int .i64 (p : Int))) B (s.goto p) vo vs := by
  obtain ⟨h0, h1, h2, h3, h4, h5, h6, h7, h8, h9, hx⟩ := h
  exact ⟨fun i hi => cell_set (h0 i hi) (by omega), fun i hi => cell_set (h1 i hi) (by omega), cell_put h2, cell_set h3 (by omega), cell_set h4 (by omega), cell_set h5 (by omega), cell_set h6 (by omega), cell_set h7 (by omega), cell_set h8 (by omega), frozen_set h9, ex_set hx (by omega)⟩
theorem StB.set_end {w : World} {B : Nat} {s : St} {vo vs : Value} (h : StB w B s vo vs) (k v : Int) : StB (((w.setCell ⟨B, 17, none⟩ (.bool false)).setCell ⟨B, 18, none⟩ (.int .i64 k)).setCell ⟨B, 19, none⟩ (.int .i64 v)) B (s.ended k v) vo vs := by
  obtain ⟨h0, h1, h2, h3, h4, h5, h6, h7, h8, h9, hx⟩ := h
  have t : ∀ {o : Nat} {u : Value}, w.cell? ⟨B, o, none⟩ = some u → o ≠ 17 → o ≠ 18 → o ≠ 19 → (((w.setCell ⟨B, 17, none⟩ (.bool false)).setCell ⟨B, 18, none⟩ (.int .i64 k)).setCell ⟨B, 19, none⟩ (.int .i64 v)).cell? ⟨B, o, none⟩ = some u := fun h a b c => cell_set (cell_set (cell_set h a) b) c
  exact ⟨fun i hi => t (h0 i hi) (by omega) (by omega) (by omega), fun i hi => t (h1 i hi) (by omega) (by omega) (by omega), t h2 (by omega) (by omega) (by omega), cell_set (cell_set (cell_put h3) (by omega)) (by omega), cell_set (cell_put (cell_set h4 (by omega))) (by omega), cell_put (cell_set (cell_set h5 (by omega)) (by omega)), t h6 (by omega) (by omega) (by omega), t h7 (by omega) (by omega) (by omega), t h8 (by omega) (by omega) (by omega), frozen_set (frozen_set (frozen_set h9)), ex_set (ex_set (ex_set hx (by omega)) (by omega)) (by omega)⟩
theorem StB.set_outs {w : World} {B : Nat} {s : St} {vo vs : Value} (h : StB w B s vo vs) (vo' : Value) (v : Int) : StB (w.setCell ⟨B, 21, none⟩ vo') B (s.out v) vo' vs := by
  obtain ⟨h0, h1, h2, h3, h4, h5, h6, h7, h8, h9, hx⟩ := h
  exact ⟨fun i hi => cell_set (h0 i hi) (by omega), fun i hi => cell_set (h1 i hi) (by omega), cell_set h2 (by omega), cell_set h3 (by omega), cell_set h4 (by omega), cell_set h5 (by omega), cell_set h6 (by omega), cell_put h7, cell_set h8 (by omega), frozen_set h9, ex_set hx (by omega)⟩
theorem StB.set_stops {w : World} {B : Nat} {s : St} {vo vs : Value} (h : StB w B s vo vs) (vs' : Value) (n : Int) : StB (w.setCell ⟨B, 22, none⟩ vs') B (s.see n) vo vs' := by
  obtain ⟨h0, h1, h2, h3, h4, h5, h6, h7, h8, h9, hx⟩ := h
  exact ⟨fun i hi => cell_set (h0 i hi) (by omega), fun i hi => cell_set (h1 i hi) (by omega), cell_set h2 (by omega), cell_set h3 (by omega), cell_set h4 (by omega), cell_set h5 (by omega), cell_set h6 (by omega), cell_set h7 (by omega), cell_put h8, frozen_set h9, ex_set hx (by omega)⟩

/-- Every block but the named ones is as it was. -/
structure Keep (S : Nat → Prop) (w w' : World) : Prop where
  os : w'.os = w.os
  tape : w'.tape = w.tape
  output : w'.output = w.output
  size : w.heap.size ≤ w'.heap.size
  block : ∀ k, k < w.heap.size → ¬ S k → w'.heap[k]? = w.heap[k]?
theorem Keep.refl (S : Nat → Prop) (w : World) : Keep S w w := ⟨rfl, rfl, rfl, Nat.le_refl _, fun _ _ _ => rfl⟩
theorem Keep.trans {S T : Nat → Prop} {a b c : World} (h : Keep S a b) (k : Keep T b c) (hT : ∀ i, i < a.heap.size → T i → S i) : Keep S a c :=
  ⟨k.os.trans h.os, k.tape.trans h.tape, k.output.trans h.output, Nat.le_trans h.size k.size, fun i hi hn => (k.block i (Nat.lt_of_lt_of_le hi h.size) (fun t => hn (hT i hi t))).trans (h.block i hi hn)⟩
theorem Keep.mono {S T : Nat → Prop} {a b : World} (h : Keep S a b) (hT : ∀ i, i < a.heap.size → S i → T i) : Keep T a b :=
  ⟨h.os, h.tape, h.output, h.size, fun i hi hn => h.block i hi (fun s => hn (hT i hi s))⟩
theorem Keep.drew {S : Nat → Prop} {a w : World} (h : Keep S a w) : Keep S a w.drew := ⟨h.os, h.tape, h.output, h.size, h.block⟩
theorem Keep.drewN {S : Nat → Prop} {a w : World} (h : Keep S a w) (n : Nat) : Keep S a (w.drewN n) := ⟨h.os, h.tape, h.output, h.size, h.block⟩
theorem Keep.alloc {S : Nat → Prop} {a w : World} (h : Keep S a w) (o : Obj) : Keep S a (w.alloc o) :=
  h.trans (T := fun _ => False) ⟨rfl, rfl, rfl, by simp, fun k hk _ => Below.heap_alloc _ _ _ hk⟩ (fun _ _ h => h.elim)
theorem Keep.setCell {S : Nat → Prop} {a w : World} (h : Keep S a w) {p : Addr} (hp : S p.block) (u : Value) : Keep S a (w.setCell p u) :=
  h.trans (T := fun k => k = p.block) ⟨rfl, rfl, rfl, by simp [World.setCell], fun k _ hn => Below.heap_setCell _ _ _ _ hn⟩ (fun i _ e => e ▸ hp)
theorem Keep.grown {S : Nat → Prop} {a w w' : World} {row : Option Nat} (h : Keep S a w) (hg : w.grownBy w' row) (hr : ∀ k, row = some k → k < a.heap.size → S k) : Keep S a w' :=
  h.trans (T := fun k => row = some k) ⟨hg.os, hg.tape, hg.output, hg.size, fun k hk hn => hg.block k hk (fun e => hn e.symm)⟩ (fun i hi e => hr i e hi)
theorem Keep.below {S : Nat → Prop} {w w' : World} (h : Keep S w w') {B : Nat} (hB : B ≤ w.heap.size) (hS : ∀ k, k < B → ¬ S k) : Below B w w' :=
  ⟨h.os, h.tape, h.output, h.size, fun k hk => h.block k (Nat.lt_of_lt_of_le hk hB) (hS k hk)⟩
theorem Keep.of_below {w w' : World} (h : Below w.heap.size w w') (S : Nat → Prop) : Keep S w w' := ⟨h.os, h.tape, h.output, h.size, fun k hk _ => h.block k hk⟩

/-- A row that the run owns stays where its block is not among the named ones. -/
theorem own_keep {S : Nat → Prop} {w w' : World} {base : Nat} {e : TypeId} {size n : Nat} {v : Value} {xs : List Value} (h : w.ownsRow base e size v n xs) (hk : Keep S w w') (hS : ∀ g, v.ownBlock = some g → ¬ S g) : w'.ownsRow base e size v n xs := by
  refine ⟨h.1, ?_⟩
  rcases h.2 with h2 | ⟨g, cap, cur, h1, h2, h3, h4⟩
  · exact .inl h2
  · exact .inr ⟨g, cap, cur, h1, h2, by rw [hk.block g (Array.getElem?_eq_some_iff.1 h3).1 (hS g (by rw [h1]; rfl))]; exact h3, h4⟩
/-- Rows of two types lie apart. -/
theorem own_apart {w : World} {base base' : Nat} {e e' : TypeId} {size size' n n' : Nat} {v v' : Value} {xs xs' : List Value} (h : w.ownsRow base e size v n xs) (h' : w.ownsRow base' e' size' v' n' xs') (he : e ≠ e') : ∀ g, v.ownBlock = some g → v'.ownBlock ≠ some g := by
  intro g hg hg'
  rcases h.2 with ⟨rfl, _⟩ | ⟨g1, cap, cur, rfl, _, h3, _⟩
  · cases hg
  rcases h'.2 with ⟨rfl, _⟩ | ⟨g2, cap', cur', rfl, _, h3', _⟩
  · cases hg'
  cases hg
  have e2 : g2 = g1 := by injection hg'
  subst e2
  rw [h3] at h3'
  injection h3' with h4
  injection h4 with _ h5
  exact he h5
theorem own_in {w : World} {base : Nat} {e : TypeId} {size n : Nat} {v : Value} {xs : List Value} (h : w.ownsRow base e size v n xs) : ∀ g, v.ownBlock = some g → base ≤ g ∧ g < w.heap.size := h.lt
end Go.Proofs.YtoepcplbpochpaaDoor

/-
  Plain mathematics of a run: what a right program keeps to, and that a run of it stays within.
-/
namespace Go.Proofs.YtoepcplbpochpaaDoor
open Go.RowKit

theorem right_of_insE (x : In4) (R n V : Int) (h : insE true x R n V 0 = 0) : Right R n V x ∧ x.op ≤ 14 := by
  unfold insE at h
  by_cases ho : ¬ (0 ≤ x.op ∧ x.op < 17 ∧ opB true x.op.toNat = true)
  · rw [if_pos ho] at h; cases h
  rw [if_neg ho] at h
  have ho' := Classical.not_not.1 ho
  obtain ⟨o0, o17, ob⟩ := ho'
  obtain ⟨o, hop⟩ : ∃ o : Nat, x.op = (o : Int) := ⟨x.op.toNat, by omega⟩
  rw [hop, Int.toNat_natCast] at h ob
  have ho14 : o < 15 := by
    rcases Nat.lt_or_ge o 15 with h | h
    · exact h
    · exfalso
      have : opB true o = false := by unfold opB; simp; omega
      rw [this] at ob; cases ob
  have key : ∀ a b c : Int, (if a ≠ 0 then a else if b ≠ 0 then b else c) = 0 → a = 0 ∧ b = 0 ∧ c = 0 := fun a b c h => by
    by_cases ha : a = 0
    · by_cases hb : b = 0
      · rw [if_neg (fun k => k ha), if_neg (fun k => k hb)] at h; exact ⟨ha, hb, h⟩
      · rw [if_neg (fun k => k ha), if_pos hb] at h; exact absurd h hb
    · rw [if_pos ha] at h; exact absurd h ha
  obtain ⟨h1, h2, h3⟩ := key _ _ _ h
  clear h key ho ob
  obtain ⟨op, d, a, b⟩ := x
  simp only at *
  subst hop
  have f0 : ∀ (m r k v s : Int), fieldE 114 m r k v s = 0 → 0 ≤ m ∧ m < r := fun m r k v s h => by
    unfold fieldE at h; simp at h; omega
  have fc : ∀ (m r k v s : Int), fieldE 99 m r k v s = 0 → 0 ≤ m ∧ m ≤ 65535 := fun m r k v s h => by
    unfold fieldE at h; simp at h; omega
  have ft : ∀ (m r k v s : Int), fieldE 116 m r k v s = 0 → 0 ≤ m ∧ m < k := fun m r k v s h => by
    unfold fieldE at h; simp at h; omega
  have fs : ∀ (m r k v s : Int), fieldE 115 m r k v s = 0 → 0 ≤ m ∧ m ≤ 99 := fun m r k v s h => by
    unfold fieldE at h; simp at h; omega
  have fv : ∀ (m r k v s : Int), fieldE 118 m r k v s = 0 → 0 ≤ m ∧ m < v := fun m r k v s h => by
    unfold fieldE at h; simp at h; omega
  unfold Right
  simp only
  rcases (show o = 0 ∨ o = 1 ∨ o = 2 ∨ o = 3 ∨ o = 4 ∨ o = 5 ∨ o = 6 ∨ o = 7 ∨ o = 8 ∨ o = 9 ∨ o = 10 ∨ o = 11 ∨ o = 12 ∨ o = 13 ∨ o = 14 by omega) with rfl | rfl | rfl | rfl | rfl | rfl | rfl | rfl | rfl | rfl | rfl | rfl | rfl | rfl | rfl
  · have g1 := f0 _ _ _ _ _ h1; have g2 := fc _ _ _ _ _ h2; omega
  · have g1 := f0 _ _ _ _ _ h1; have g2 := f0 _ _ _ _ _ h2; omega
  · have g1 := f0 _ _ _ _ _ h1; have g2 := f0 _ _ _ _ _ h2; have g3 := f0 _ _ _ _ _ h3; omega
  · have g1 := f0 _ _ _ _ _ h1; have g2 := f0 _ _ _ _ _ h2; have g3 := f0 _ _ _ _ _ h3; omega
  · have g1 := f0 _ _ _ _ _ h1; have g2 := f0 _ _ _ _ _ h2; have g3 := f0 _ _ _ _ _ h3; omega
  · have g1 := f0 _ _ _ _ _ h1; have g2 := f0 _ _ _ _ _ h2; have g3 := f0 _ _ _ _ _ h3; omega
  · have g1 := f0 _ _ _ _ _ h1; have g2 := f0 _ _ _ _ _ h2; have g3 := f0 _ _ _ _ _ h3; omega
  · have g2 := ft _ _ _ _ _ h2; omega
  · have g2 := f0 _ _ _ _ _ h2; have g3 := ft _ _ _ _ _ h3; omega
  · have g2 := f0 _ _ _ _ _ h2; omega
  · have g2 := f0 _ _ _ _ _ h2; omega
  · have g2 := fs _ _ _ _ _ h2; omega
  · have g1 := fv _ _ _ _ _ h1; have g2 := f0 _ _ _ _ _ h2; omega
  · have g1 := fv _ _ _ _ _ h1; have g2 := fc _ _ _ _ _ h2; omega
  · have g1 := fv _ _ _ _ _ h1; omega

theorem codedFrom_ok (p : Bool) (L : List In4) (r v s : Int) : ∀ (m k : Nat), k + m = L.length → (codedFrom p L r v s k m).1 = 0 → (∀ i, k ≤ i → i < L.length → insE p (inAt L i) r L.length v s = 0) ∧ ((inAt L (L.length - 1)).op = 7 ∨ (inAt L (L.length - 1)).op = 10)
  | 0, k, hk, h => by
    refine ⟨fun i h1 h2 => by omega, ?_⟩
    unfold codedFrom at h
    by_cases hc : (inAt L (L.length - 1)).op ≠ 7 ∧ (inAt L (L.length - 1)).op ≠ 10
    · rw [if_pos hc] at h; cases h
    · omega
  | m + 1, k, hk, h => by
    unfold codedFrom at h
    by_cases hc : insE p (inAt L k) r L.length v s ≠ 0
    · rw [if_pos hc] at h; exact absurd h hc
    · rw [if_neg hc] at h
      obtain ⟨h1, h2⟩ := codedFrom_ok p L r v s m (k + 1) (by omega) h
      refine ⟨fun i hi hl => ?_, h2⟩
      by_cases hik : i = k
      · subst hik; exact Classical.not_not.1 hc
      · exact h1 i (by omega) hl

/-- What a right program keeps to. -/
structure RightP (P R V : Int) (L : List In4) : Prop where
  r1 : 1 ≤ R
  r12 : R ≤ 12
  p0 : 0 ≤ P
  p4 : P ≤ 4
  pr : P ≤ R
  v0 : 0 ≤ V
  v4 : V ≤ 4
  n1 : 1 ≤ L.length
  n40 : L.length ≤ 40
  ins : ∀ i, i < L.length → Right R L.length V (inAt L i)
  last : (inAt L (L.length - 1)).op = 7 ∨ (inAt L (L.length - 1)).op = 10
  low : ∀ i, i < L.length → (inAt L i).op ≤ 14
theorem rightP_of (P R V : Int) (L : List In4) (h : (progE P R V L).1 = 0) : RightP P R V L := by
  by_cases hs : SizeBad P R V L.length
  · rw [progE_bad hs] at h; cases h
  · rw [progE_good hs] at h
    obtain ⟨h1, h2⟩ := codedFrom_ok true L R V 0 L.length 0 (by omega) h
    unfold SizeBad at hs
    exact ⟨by omega, by omega, by omega, by omega, by omega, by omega, by omega, by omega, by omega, fun i hi => (right_of_insE _ _ _ _ (h1 i (Nat.zero_le _) hi)).1, h2, fun i hi => (right_of_insE _ _ _ _ (h1 i (Nat.zero_le _) hi)).2⟩

/-- What a run keeps to. -/
structure StOk (L : List In4) (V : Int) (s : St) : Prop where
  at_ : s.on = true → s.at_ < L.length
  regs : ∀ i, 0 ≤ s.regs i ∧ s.regs i ≤ 65535
  vars : ∀ i : Nat, V ≤ (i : Int) → s.vars i = -1
  outs : s.outs.length ≤ s.steps
  stops : s.stops.length ≤ s.steps
  kind : s.on = true → s.kind = 2 ∧ s.val = 0
  env : s.env = progEnv

theorem reach_ok (op a b : Int) (ha : 0 ≤ a ∧ a ≤ 65535) (hb : 0 ≤ b ∧ b ≤ 65535) : reachE op a b = -1 ∨ (0 ≤ reachE op a b ∧ reachE op a b ≤ 65535) := by
  unfold reachE
  by_cases h2 : op = 2
  · rw [if_pos h2]; omega
  rw [if_neg h2]
  by_cases h3 : op = 3
  · rw [if_pos h3]; omega
  rw [if_neg h3]
  by_cases h4 : op = 4
  · rw [if_pos h4]; right; generalize a * b = q; omega
  rw [if_neg h4]
  by_cases h5 : op = 5
  · rw [if_pos h5]
    by_cases h0 : b = 0
    · rw [if_pos h0]; exact .inl rfl
    · rw [if_neg h0]
      have g0 : 0 ≤ a / b := Int.ediv_nonneg ha.1 hb.1
      have g1 : a / b ≤ a := Int.ediv_le_self _ ha.1
      right; generalize a / b = q at g0 g1; omega
  rw [if_neg h5]
  by_cases h : a < b
  · rw [if_pos h]; omega
  · rw [if_neg h]; omega

theorem upd_ok (f : Nat → Int) (d : Nat) (v : Int) (hf : ∀ i, 0 ≤ f i ∧ f i ≤ 65535) (hv : 0 ≤ v ∧ v ≤ 65535) : ∀ i, 0 ≤ upd f d v i ∧ upd f d v i ≤ 65535 := fun i => by
  unfold upd; split
  · exact hv
  · exact hf i

/-- A step keeps to it, and counts one. -/
theorem step_ok {P R V : Int} {L : List In4} (hp : RightP P R V L) {s : St} (h : StOk L V s) (hon : s.on = true) : StOk L V (stepSt (inAt L s.at_) s) ∧ (stepSt (inAt L s.at_) s).steps = s.steps + 1 := by
  have hat := h.at_ hon
  have hx := hp.ins s.at_ hat
  have hlow := hp.low s.at_ hat
  have hlast := hp.last
  obtain ⟨x, hxe⟩ : ∃ x, x = inAt L s.at_ := ⟨_, rfl⟩
  have hne : x.op ≠ 7 → x.op ≠ 10 → s.at_ + 1 < L.length := fun h7 h10 => by
    rcases Nat.lt_or_ge (s.at_ + 1) L.length with h | h
    · exact h
    · exfalso
      have : L.length - 1 = s.at_ := by omega
      rw [this, ← hxe] at hlast
      rcases hlast with h | h
      · exact h7 h
      · exact h10 h
  rw [← hxe] at hx hlow ⊢
  clear hlast hxe
  obtain ⟨o0, _, rD, rA, rB, rC, rJ, rI, rS, rV, _, _⟩ := hx
  have hk := h.kind hon
  have hok : ∀ s' : St, (s'.on = true → s'.at_ < L.length) → (∀ i, 0 ≤ s'.regs i ∧ s'.regs i ≤ 65535) → (∀ i : Nat, V ≤ (i : Int) → s'.vars i = -1) → s'.outs.length ≤ s'.steps → s'.stops.length ≤ s'.steps → (s'.on = true → s'.kind = 2 ∧ s'.val = 0) → s'.steps = s.steps + 1 → s'.env = s.env → StOk L V s' ∧ s'.steps = s.steps + 1 :=
    fun s' a b c d e f g k => ⟨⟨a, b, c, d, e, f, k.trans h.env⟩, g⟩
  have ho := h.outs
  have hs := h.stops
  unfold stepSt
  rcases (show x.op = 0 ∨ x.op = 1 ∨ (2 ≤ x.op ∧ x.op ≤ 6) ∨ x.op = 7 ∨ x.op = 8 ∨ x.op = 9 ∨ x.op = 10 ∨ x.op = 11 ∨ x.op = 12 ∨ x.op = 13 ∨ x.op = 14 by omega) with e | e | e | e | e | e | e | e | e | e | e
  · have : doSt x (preSt x s) = s.next.reg x.d.toNat x.a := by
      unfold preSt; rw [if_neg (by omega), if_neg (by omega), if_neg (by omega), if_neg (by omega), if_neg (by omega), if_neg (by omega)]; unfold doSt; rw [if_pos e]
    rw [this]
    exact hok _ (fun _ => hne (by omega) (by omega)) (upd_ok _ _ _ h.regs (rC (.inl e))) h.vars (Nat.le_succ_of_le ho) (Nat.le_succ_of_le hs) (fun _ => hk) rfl rfl
  · have : doSt x (preSt x s) = s.next.reg x.d.toNat (s.regs x.a.toNat) := by
      unfold preSt; rw [if_neg (by omega), if_neg (by omega), if_neg (by omega), if_neg (by omega), if_neg (by omega), if_neg (by omega)]; unfold doSt; rw [if_neg (by omega), if_pos e]
    rw [this]
    exact hok _ (fun _ => hne (by omega) (by omega)) (upd_ok _ _ _ h.regs (h.regs _)) h.vars (Nat.le_succ_of_le ho) (Nat.le_succ_of_le hs) (fun _ => hk) rfl rfl
  · have : doSt x (preSt x s) = s.next.reckon x.op x.d.toNat x.a.toNat x.b.toNat := by
      unfold preSt; rw [if_neg (by omega), if_neg (by omega), if_neg (by omega), if_neg (by omega), if_neg (by omega), if_neg (by omega)]; unfold doSt
      rw [if_neg (by omega), if_neg (by omega), if_neg (by omega), if_neg (by omega), if_neg (by omega), if_neg (by omega), if_pos e]
    rw [this]
    unfold St.reckon
    rcases reach_ok x.op (s.regs x.a.toNat) (s.regs x.b.toNat) (h.regs _) (h.regs _) with hr | hr
    · rw [if_pos (by show reachE x.op (s.regs x.a.toNat) (s.regs x.b.toNat) < 0; omega)]
      exact hok _ (fun k => by cases k) h.regs h.vars (Nat.le_succ_of_le ho) (Nat.le_succ_of_le hs) (fun k => by cases k) rfl rfl
    · rw [if_neg (by show ¬ reachE x.op (s.regs x.a.toNat) (s.regs x.b.toNat) < 0; omega)]
      exact hok _ (fun _ => hne (by omega) (by omega)) (upd_ok _ _ _ h.regs hr) h.vars (Nat.le_succ_of_le ho) (Nat.le_succ_of_le hs) (fun _ => hk) rfl rfl
  · have : doSt x (preSt x s) = s.next.goto x.a.toNat := by
      unfold preSt; rw [if_neg (by omega), if_neg (by omega), if_neg (by omega), if_neg (by omega), if_neg (by omega), if_neg (by omega)]; unfold doSt; rw [if_neg (by omega), if_neg (by omega), if_pos e]
    rw [this]
    exact hok _ (fun _ => by have := rJ e; show x.a.toNat < L.length; omega) h.regs h.vars (Nat.le_succ_of_le ho) (Nat.le_succ_of_le hs) (fun _ => hk) rfl rfl
  · have : doSt x (preSt x s) = if s.regs x.a.toNat = 0 then s.next else s.next.goto x.b.toNat := by
      unfold preSt; rw [if_neg (by omega), if_neg (by omega), if_neg (by omega), if_neg (by omega), if_neg (by omega), if_neg (by omega)]; unfold doSt; rw [if_neg (by omega), if_neg (by omega), if_neg (by omega), if_pos e]
    rw [this]
    by_cases hz : s.regs x.a.toNat = 0
    · rw [if_pos hz]
      exact hok _ (fun _ => hne (by omega) (by omega)) h.regs h.vars (Nat.le_succ_of_le ho) (Nat.le_succ_of_le hs) (fun _ => hk) rfl rfl
    · rw [if_neg hz]
      exact hok _ (fun _ => by have := rI e; show x.b.toNat < L.length; omega) h.regs h.vars (Nat.le_succ_of_le ho) (Nat.le_succ_of_le hs) (fun _ => hk) rfl rfl
  · have : doSt x (preSt x s) = s.next.out (s.regs x.a.toNat) := by
      unfold preSt; rw [if_neg (by omega), if_neg (by omega), if_neg (by omega), if_neg (by omega), if_neg (by omega), if_neg (by omega)]; unfold doSt; rw [if_neg (by omega), if_neg (by omega), if_neg (by omega), if_neg (by omega), if_pos e]
    rw [this]
    exact hok _ (fun _ => hne (by omega) (by omega)) h.regs h.vars (by show (s.outs ++ [_]).length ≤ s.steps + 1; rw [List.length_append]; exact Nat.succ_le_succ ho) (Nat.le_succ_of_le hs) (fun _ => hk) rfl rfl
  · have : doSt x (preSt x s) = s.next.ended 0 (s.regs x.a.toNat) := by
      unfold preSt; rw [if_neg (by omega), if_neg (by omega), if_neg (by omega), if_neg (by omega), if_neg (by omega), if_neg (by omega)]; unfold doSt; rw [if_neg (by omega), if_neg (by omega), if_neg (by omega), if_neg (by omega), if_neg (by omega), if_pos e]
    rw [this]
    exact hok _ (fun k => by cases k) h.regs h.vars (Nat.le_succ_of_le ho) (Nat.le_succ_of_le hs) (fun k => by cases k) rfl rfl
  all_goals
    have hd : ∀ s', doSt x s' = s'.next := fun s' => by
      unfold doSt; rw [if_neg (by omega), if_neg (by omega), if_neg (by omega), if_neg (by omega), if_neg (by omega), if_neg (by omega), if_neg (by omega)]
    rw [hd]
    unfold preSt
  · rw [if_pos e]
    exact hok _ (fun _ => hne (by omega) (by omega)) h.regs h.vars (Nat.le_succ_of_le ho) (by show (s.stops ++ [_]).length ≤ s.steps + 1; rw [List.length_append]; exact Nat.succ_le_succ hs) (fun _ => hk) rfl rfl
  · rw [if_neg (by omega), if_pos e]
    exact hok _ (fun _ => hne (by omega) (by omega)) h.regs (fun i hi => by have := rV (by omega); show upd s.vars x.d.toNat _ i = -1; rw [upd_other _ _ (by omega)]; exact h.vars i hi) (Nat.le_succ_of_le ho) (Nat.le_succ_of_le hs) (fun _ => hk) rfl rfl
  · rw [if_neg (by omega), if_neg (by omega), if_pos e]
    exact hok _ (fun _ => hne (by omega) (by omega)) h.regs (fun i hi => by have := rV (by omega); show upd s.vars x.d.toNat _ i = -1; rw [upd_other _ _ (by omega)]; exact h.vars i hi) (Nat.le_succ_of_le ho) (Nat.le_succ_of_le hs) (fun _ => hk) rfl rfl
  · rw [if_neg (by omega), if_neg (by omega), if_neg (by omega), if_pos e]
    exact hok _ (fun _ => hne (by omega) (by omega)) h.regs (fun i hi => by have := rV (by omega); show upd s.vars x.d.toNat _ i = -1; rw [upd_other _ _ (by omega)]; exact h.vars i hi) (Nat.le_succ_of_le ho) (Nat.le_succ_of_le hs) (fun _ => hk) rfl rfl

theorem run_off (L : List In4) (m : Nat) (s : St) (h : s.on = false) : runSt L m s = s := by
  cases m with
  | zero => rfl
  | succ m => unfold runSt; rw [h]; rfl
theorem run_on {L : List In4} {m : Nat} {s : St} (hm : 0 < m) (h : s.on = true) : runSt L m s = runSt L (m - 1) (stepSt (inAt L s.at_) s) := by
  obtain ⟨k, rfl⟩ : ∃ k, m = k + 1 := ⟨m - 1, by omega⟩
  show (if s.on then _ else _) = _
  rw [h]; rfl

/-- The answer of a run: its error, and what it came to. -/
def zst : St := ⟨0, fun _ => 0, fun _ => 0, false, 0, 0, 0, [], [], progEnv⟩
end Go.Proofs.YtoepcplbpochpaaDoor

/-
  What a right program keeps to along its ways.
-/
namespace Go.Proofs.YtoepcplbpochpaaDoor
open Go.RowKit

theorem right_inside {P R V : Int} {L : List In4} (hp : RightP P R V L) : Inside L := fun i hi => by
  have hx := hp.ins i hi
  have hl := hp.last
  have hne : (inAt L i).op ≠ 7 → (inAt L i).op ≠ 10 → i + 1 < L.length := fun h7 h10 => by
    rcases Nat.lt_or_ge (i + 1) L.length with h | h
    · exact h
    · have e : L.length - 1 = i := by omega
      rw [e] at hl
      exact (hl.elim h7 h10).elim
  obtain ⟨_, _, _, _, _, _, rJ, rI, _⟩ := hx
  unfold nx1 nx2
  by_cases h7 : (inAt L i).op = 7
  · rw [if_pos h7, if_neg (by omega)]; exact ⟨.inr (rJ h7), .inl rfl⟩
  rw [if_neg h7]
  by_cases h8 : (inAt L i).op = 8
  · rw [if_pos h8, if_pos h8]; have := hne (by omega) (by omega); exact ⟨.inr (rI h8), .inr (by omega)⟩
  rw [if_neg h8, if_neg h8]
  by_cases h10 : (inAt L i).op = 10
  · rw [if_pos h10]; exact ⟨.inl rfl, .inl rfl⟩
  · rw [if_neg h10]; have := hne h7 h10; exact ⟨.inr (by omega), .inl rfl⟩
theorem right_wr {P R V : Int} {L : List In4} (hp : RightP P R V L) : ∀ i, i < L.length → isWr (inAt L i).op = true → 0 ≤ (inAt L i).d ∧ (inAt L i).d < R ∧ i + 1 < L.length := fun i hi hw => by
  have hx := hp.ins i hi
  have hl := hp.last
  have ho : (inAt L i).op = 0 ∨ (inAt L i).op = 1 ∨ (2 ≤ (inAt L i).op ∧ (inAt L i).op ≤ 6) := by
    unfold isWr isRk at hw
    rw [Bool.or_eq_true, Bool.or_eq_true, Bool.and_eq_true, beq_iff_eq, beq_iff_eq, decide_eq_true_iff, decide_eq_true_iff] at hw
    omega
  have hd := hx.2.2.1 ho
  refine ⟨hd.1, hd.2, ?_⟩
  rcases Nat.lt_or_ge (i + 1) L.length with h | h
  · exact h
  · have e : L.length - 1 = i := by omega
    rw [e] at hl
    omega
/-- A variable is bound to registers that there are. -/
theorem fact_reg {P R V : Int} {L : List In4} (hp : RightP P R V L) (i v : Nat) : (factB L i v).k = 3 → 0 ≤ (factB L i v).a ∧ (factB L i v).a < R := by
  unfold factB
  rw [factM_pass]
  refine Chaos.iter_inv (n := L.length) (f := sprF L v) (I := fun h => ∀ j, (h j).k = 3 → 0 ≤ (h j).a ∧ (h j).a < R) (fun k hk g hg => ?_) (List.range L.length) (fun i hi => List.mem_range.1 hi) _ startF (fun j h => ?_) i
  · have hx := hp.ins k hk
    have hb : ∀ f : Ft, (f.k = 3 → 0 ≤ f.a ∧ f.a < R) → (behF (inAt L k) v f).k = 3 → 0 ≤ (behF (inAt L k) v f).a ∧ (behF (inAt L k) v f).a < R := fun f hf => by
      unfold behF
      split
      · exact hf
      split
      · intro h; cases h
      split
      · split
        · rename_i h12
          intro _
          exact hx.2.2.2.1 (.inr (.inr (.inr (.inr (.inr h12)))))
        · split
          · intro h; cases h
          · intro h; cases h
      · exact hf
    have hm : ∀ f g : Ft, (f.k = 3 → 0 ≤ f.a ∧ f.a < R) → (g.k = 3 → 0 ≤ g.a ∧ g.a < R) → (metF f g).k = 3 → 0 ≤ (metF f g).a ∧ (metF f g).a < R := fun f g hf hg => by
      unfold metF
      split
      · exact hg
      split
      · exact hf
      · intro h; cases h
    have step : ∀ (p : Int) (f : Ft) (h : Nat → Ft), (f.k = 3 → 0 ≤ f.a ∧ f.a < R) → (∀ j, (h j).k = 3 → 0 ≤ (h j).a ∧ (h j).a < R) → ∀ j, (bring p f h j).k = 3 → 0 ≤ (bring p f h j).a ∧ (bring p f h j).a < R := fun p f h hf hh j => by
      unfold bring
      split
      · exact hh j
      · show (if j = p.toNat then metF (h j) f else h j).k = 3 → 0 ≤ (if j = p.toNat then metF (h j) f else h j).a ∧ (if j = p.toNat then metF (h j) f else h j).a < R
        split
        · exact hm _ _ (hh j) hf
        · exact hh j
    exact step _ _ _ (hb _ (hg k)) (step _ _ _ (hb _ (hg k)) hg)
  · unfold startF at h
    split at h <;> cases h
end Go.Proofs.YtoepcplbpochpaaDoor

/-
  Plain mathematics: what the document's own search for a live register keeps to.
-/
namespace Go.Proofs.YtoepcplbpochpaaDoor
open Go.RowKit

/-- Where a way goes on, as a list. -/
def nxtL (x : In4) (i : Nat) : List Int := if x.op = 7 then [x.a] else if x.op = 8 then [x.b, (i : Int) + 1] else if x.op = 10 then [] else [(i : Int) + 1]
theorem nxtL_mem {L : List In4} {i k : Nat} : (k : Int) ∈ nxtL (inAt L i) i ↔ Nx L i k := by
  unfold nxtL Nx nx1 nx2
  by_cases h7 : (inAt L i).op = 7
  · rw [if_pos h7, if_pos h7, if_neg (by omega), List.mem_singleton]; omega
  rw [if_neg h7, if_neg h7]
  by_cases h8 : (inAt L i).op = 8
  · rw [if_pos h8, if_pos h8, if_pos h8, List.mem_cons, List.mem_singleton]
  rw [if_neg h8, if_neg h8, if_neg h8]
  by_cases h10 : (inAt L i).op = 10
  · rw [if_pos h10, if_pos h10]
    exact ⟨fun h => absurd h List.not_mem_nil, fun h => by omega⟩
  · rw [if_neg h10, if_neg h10, List.mem_singleton]; omega
theorem nxtL_len (x : In4) (i : Nat) : (nxtL x i).length ≤ 2 := by
  unfold nxtL
  split
  · exact Nat.le_succ _
  split
  · exact Nat.le_refl _
  split
  · exact Nat.zero_le _
  · exact Nat.le_succ _
/-- All that is still to be looked at lies inside. -/
theorem nxtL_lt {L : List In4} (hL : Inside L) {i : Nat} (hi : i < L.length) {z : Int} (h : z ∈ nxtL (inAt L i) i) (h0 : 0 ≤ z) : ∃ k : Nat, z = k ∧ k < L.length ∧ Nx L i k := by
  obtain ⟨k, rfl⟩ : ∃ k : Nat, z = k := ⟨z.toNat, by omega⟩
  have hn := nxtL_mem.1 h
  exact ⟨k, rfl, hn.lt hL hi, hn⟩
/-- The search: the places that it has been at, those that are still to be looked at. -/
structure Seek (L : List In4) (r : Int) (i : Nat) (been : Nat → Bool) (todo : List Int) : Prop where
  lt : ∀ z ∈ todo, ∃ j : Nat, z = j ∧ j < L.length
  sound : ∀ j : Nat, (j : Int) ∈ todo → LiveP L r j → LiveP L r i
  no : ∀ j, been j = true → rdB (inAt L j) r = false
  cl : ∀ j k, been j = true → wrB (inAt L j) r = false → Nx L j k → been k = true ∨ (k : Int) ∈ todo
  start : been i = true ∨ (i : Int) ∈ todo
theorem Seek.begin {L : List In4} {r : Int} {i : Nat} (hi : i < L.length) : Seek L r i (fun _ => false) [(i : Int)] :=
  ⟨fun z hz => ⟨i, List.mem_singleton.1 hz, hi⟩, fun j hj h => by have : j = i := by have := List.mem_singleton.1 hj; omega
                                                                  rw [← this]; exact h, fun j h => (by cases h), fun j k h => (by cases h), .inr (List.mem_singleton.2 rfl)⟩
/-- Nothing is left to be looked at: it is not live. -/
theorem Seek.none {L : List In4} {r : Int} {i : Nat} {been : Nat → Bool} (h : Seek L r i been []) : ¬ LiveP L r i := by
  have key : ∀ m j, been j = true → ¬ liveW L r m j := by
    intro m
    induction m with
    | zero => intro j _ h; cases h
    | succ m ih =>
      intro j hj hw
      rcases hw.2 with hr | ⟨hw', k, hn, hk⟩
      · rw [h.no j hj] at hr; cases hr
      · rcases h.cl j k hj hw' hn with e | e
        · exact ih k e hk
        · cases e
  rintro ⟨m, hm⟩
  rcases h.start with e | e
  · exact key m i e hm
  · cases e
theorem Seek.yes {L : List In4} {r : Int} {i j : Nat} {been : Nat → Bool} {todo : List Int} (h : Seek L r i been (todo ++ [(j : Int)])) (hr : rdB (inAt L j) r = true) : LiveP L r i := by
  have hm : (j : Int) ∈ todo ++ [(j : Int)] := List.mem_append.2 (.inr (List.mem_singleton.2 rfl))
  obtain ⟨k, hk, hk'⟩ := h.lt _ hm
  have : j = k := by omega
  subst this
  exact h.sound j hm (.here hk' hr)
theorem mem_last {j k : Nat} {todo : List Int} (h : (k : Int) ∈ todo ++ [(j : Int)]) : (k : Int) ∈ todo ∨ k = j := by
  rcases List.mem_append.1 h with h | h
  · exact .inl h
  · exact .inr (by have := List.mem_singleton.1 h; omega)
/-- It has been there. -/
theorem Seek.again {L : List In4} {r : Int} {i j : Nat} {been : Nat → Bool} {todo : List Int} (h : Seek L r i been (todo ++ [(j : Int)])) (hb : been j = true) : Seek L r i been todo := by
  refine ⟨fun z hz => h.lt z (List.mem_append.2 (.inl hz)), fun k hk => h.sound k (List.mem_append.2 (.inl hk)), h.no, fun a k ha hw hn => ?_, ?_⟩
  · rcases h.cl a k ha hw hn with e | e
    · exact .inl e
    · rcases mem_last e with e | rfl
      · exact .inr e
      · exact .inl hb
  · rcases h.start with e | e
    · exact .inl e
    · rcases mem_last e with e | rfl
      · exact .inr e
      · exact .inl hb
/-- A place more. -/
theorem Seek.on {L : List In4} (hL : Inside L) (h0 : ∀ j, j < L.length → ∀ z ∈ nxtL (inAt L j) j, 0 ≤ z) {r : Int} {i j : Nat} {been : Nat → Bool} {todo : List Int} (h : Seek L r i been (todo ++ [(j : Int)])) (hr : rdB (inAt L j) r = false) {more : List Int} (hm : more = if wrB (inAt L j) r = true then [] else nxtL (inAt L j) j) : Seek L r i (fun k => k == j || been k) (todo ++ more) := by
  have hjm : (j : Int) ∈ todo ++ [(j : Int)] := List.mem_append.2 (.inr (List.mem_singleton.2 rfl))
  have hj : j < L.length := by obtain ⟨k, hk, hk'⟩ := h.lt _ hjm; omega
  have move : ∀ k : Nat, (been k = true ∨ (k : Int) ∈ todo ++ [(j : Int)]) → (k == j || been k) = true ∨ (k : Int) ∈ todo ++ more := fun k hk => by
    rw [Bool.or_eq_true, beq_iff_eq]
    rcases hk with e | e
    · exact .inl (.inr e)
    · rcases mem_last e with e | e
      · exact .inr (List.mem_append.2 (.inl e))
      · exact .inl (.inl e)
  refine ⟨fun z hz => ?_, fun k hk hl => ?_, fun k hk => ?_, fun a k ha hw hn => ?_, move i h.start⟩
  · rcases List.mem_append.1 hz with hz | hz
    · exact h.lt z (List.mem_append.2 (.inl hz))
    · rw [hm] at hz
      split at hz
      · cases hz
      · obtain ⟨k, e, hk, _⟩ := nxtL_lt hL hj hz (h0 j hj z hz)
        exact ⟨k, e, hk⟩
  · rcases List.mem_append.1 hk with hk | hk
    · exact h.sound k (List.mem_append.2 (.inl hk)) hl
    · rw [hm] at hk
      split at hk
      · cases hk
      · next hw => exact h.sound j hjm (.on hj (by cases e : wrB (inAt L j) r with | false => rfl | true => exact absurd e hw) (nxtL_mem.1 hk) hl)
  · rw [Bool.or_eq_true, beq_iff_eq] at hk
    rcases hk with rfl | hk
    · exact hr
    · exact h.no k hk
  · rw [Bool.or_eq_true, beq_iff_eq] at ha
    rcases ha with rfl | ha
    · right
      rw [hm, if_neg (by rw [hw]; decide)]
      exact List.mem_append.2 (.inr (nxtL_mem.2 hn))
    · exact move k (h.cl a k ha hw hn)
/-- The places that it has not been at. -/
def newC (been : Nat → Bool) : Nat → Nat
  | 0 => 0
  | n + 1 => newC been n + (if been n = true then 0 else 1)
theorem newC_le {been : Nat → Bool} {j : Nat} : ∀ n, newC (fun k => k == j || been k) n ≤ newC been n
  | 0 => Nat.le_refl _
  | n + 1 => by
    have := newC_le (been := been) (j := j) n
    unfold newC
    by_cases e : been n = true
    · rw [if_pos e, if_pos (by rw [e, Bool.or_true])]; omega
    · rw [if_neg e]; split <;> omega
theorem newC_on {been : Nat → Bool} {j : Nat} (hb : been j = false) : ∀ n, j < n → newC (fun k => k == j || been k) n + 1 ≤ newC been n
  | 0, h => absurd h (Nat.not_lt_zero _)
  | n + 1, h => by
    unfold newC
    by_cases e : n = j
    · subst e
      have := newC_le (been := been) (j := n) n
      rw [if_pos (by rw [beq_self_eq_true, Bool.true_or]), if_neg (by rw [hb]; decide)]; omega
    · have := newC_on hb n (by omega)
      have e' : (n == j) = false := by rw [beq_eq_false_iff_ne]; exact e
      rw [e', Bool.false_or]; omega
end Go.Proofs.YtoepcplbpochpaaDoor
