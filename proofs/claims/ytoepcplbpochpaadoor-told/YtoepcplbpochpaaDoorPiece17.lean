/-
  A table that grows: (*lodge.rangeList).add.
-/
import Derived.Test.YtoepcplbpochpaaDoorPiece12
import Derived.Test.YtoepcplbpochpaaDoorPiece14
import Derived.Test.YtoepcplbpochpaaDoorPiece16

namespace Go.Proofs.YtoepcplbpochpaaDoor
open Go.RowKit

/-- A table with one range more. -/
def addR (R : List Rg) (g : Rg) : List Rg := if 0 < R.length ∧ goesB (rg R (R.length - 1)) g = true then R.set (R.length - 1) ⟨(rg R (R.length - 1)).v, (rg R (R.length - 1)).f, g.t, (rg R (R.length - 1)).k, (rg R (R.length - 1)).a⟩ else R ++ [g]

structure TlB (w : World) (B : Nat) (R : List Rg) (sv : Value) : Prop where
  row : Rowd w B 158 1 (fun _ => sv)
  own : w.ownsRow (B + 1) 132 5 sv R.length (cellsOf R)
theorem TlB.lt {w : World} {B : Nat} {R : List Rg} {sv : Value} (h : TlB w B R sv) : B < w.heap.size := h.row.lt
theorem TlB.cell {w : World} {B : Nat} {R : List Rg} {sv : Value} (h : TlB w B R sv) : w.cell? ⟨B, 0, none⟩ = some sv := h.row.cell (by omega)
theorem TlB.keep0 {w w' : World} {B : Nat} {R : List Rg} {sv : Value} (h : TlB w B R sv) (hk : Keep (fun _ => False) w w') : TlB w' B R sv := ⟨h.row.keep hk (fun h => h), own_keep h.own hk (fun _ _ h => h)⟩
theorem TlB.below {w w' : World} {B : Nat} {R : List Rg} {sv : Value} (h : TlB w B R sv) (hb : Below w.heap.size w w') : TlB w' B R sv := h.keep0 (Keep.of_below hb _)
theorem TlB.drew {w : World} {B : Nat} {R : List Rg} {sv : Value} (h : TlB w B R sv) : TlB w.drew B R sv := h.keep0 (Keep.refl _ _).drew
theorem TlB.apart {w : World} {B : Nat} {R : List Rg} {sv : Value} (h : TlB w B R sv) {k : Nat} (hk : w.heap.size ≤ k) : some k ≠ sv.ownBlock := fun e => by have := (own_in h.own k e.symm).2; omega
theorem TlB.under {B : Nat} {w w' : World} {R : List Rg} {sv sv' : Value} (h : WrStep B w sv w' sv') (hw : TlB w B R sv) : Below B w w' :=
  h.keep.below (Nat.le_of_lt hw.lt) (fun k hk e => e.elim (fun e => by omega) (fun e => by have := (own_in hw.own k e.symm).1; omega))
theorem TlB.slice {w : World} {B : Nat} {R : List Rg} {sv : Value} (h : TlB w B R sv) (hn : 1 ≤ R.length) : ∃ g cap, sv = .slice (some ⟨g, 0, none⟩) R.length cap ∧ B < g ∧ g < w.heap.size ∧ (∀ o, w.frozen? ⟨g, o, none⟩ = false) := by
  rcases h.own.2 with ⟨_, h0⟩ | ⟨g, cap, cur, h1, h2, h3, _⟩
  · omega
  · exact ⟨g, cap, h1, by omega, (Array.getElem?_eq_some_iff.1 h3).1, fun o => by simp [World.frozen?, h3]⟩
theorem TlB.shape {w : World} {B : Nat} {R : List Rg} {sv : Value} (h : TlB w B R sv) : ∃ ao cap, sv = .slice ao R.length cap := by
  rcases h.own.2 with ⟨h1, h0⟩ | ⟨g, cap, cur, h1, _⟩
  · exact ⟨none, 0, by rw [h0]; exact h1⟩
  · exact ⟨_, _, h1⟩
def At5 (w : World) (b o : Nat) (x : Rg) : Prop := w.cell? ⟨b, o, none⟩ = some (.int .i64 x.v) ∧ w.cell? ⟨b, o + 1, none⟩ = some (.int .i64 x.f) ∧ w.cell? ⟨b, o + 2, none⟩ = some (.int .i64 x.t) ∧ w.cell? ⟨b, o + 3, none⟩ = some (.int .i64 x.k) ∧ w.cell? ⟨b, o + 4, none⟩ = some (.int .i64 x.a)
theorem At5.below {w w' : World} {B b o : Nat} {x : Rg} (h : At5 w b o x) (hb : Below B w w') (hB : b < B) : At5 w' b o x :=
  ⟨(hb.cell hB).trans h.1, (hb.cell hB).trans h.2.1, (hb.cell hB).trans h.2.2.1, (hb.cell hB).trans h.2.2.2.1, (hb.cell hB).trans h.2.2.2.2⟩
theorem box5 (w : World) (x : Rg) : ∃ w2, w2 = w.alloc (.cells #[.int .i64 x.v, .int .i64 x.f, .int .i64 x.t, .int .i64 x.k, .int .i64 x.a] 132) ∧ At5 w2 w.heap.size 0 x ∧ Hid (Below w.heap.size w w2) ∧ w.heap.size < w2.heap.size := by
  have q : ∀ i, (w.alloc (.cells #[.int .i64 x.v, .int .i64 x.f, .int .i64 x.t, .int .i64 x.k, .int .i64 x.a] 132)).cell? ⟨w.heap.size, i, none⟩ = #[Value.int .i64 x.v, .int .i64 x.f, .int .i64 x.t, .int .i64 x.k, .int .i64 x.a][i]? := fun i => World.cell?_alloc_at (hn := rfl) ..
  exact ⟨_, rfl, ⟨(q 0).trans rfl, (q 1).trans rfl, (q 2).trans rfl, (q 3).trans rfl, (q 4).trans rfl⟩, (Below.refl _ _).alloc (Nat.le_refl _) _, by simp⟩
theorem own_rg {w : World} {base g n cap : Nat} {R : List Rg} (h : w.ownsRow base 132 5 (.slice (some ⟨g, 0, none⟩) n cap) n (cellsOf R)) (hn : n = R.length) {i : Nat} (hi : i < R.length) : At5 w g (i * 5) (rg R i) := by
  have key : ∀ j, j < 5 → w.cell? ⟨g, i * 5 + j, none⟩ = (rg R i).cells[j]? := fun j hj => by
    have hc := World.ownsRow.cellAt h (i * 5 + j) (by omega)
    rw [hc]; exact cellsOf_at R i hi j hj
  exact ⟨key 0 (by omega), key 1 (by omega), key 2 (by omega), key 3 (by omega), key 4 (by omega)⟩
theorem cellsOf_set : ∀ (R : List Rg) (i j : Nat) (v : Value) (x' : Rg), j < 5 → i < R.length → x'.cells = (rg R i).cells.set j v → (cellsOf R).set (i * 5 + j) v = cellsOf (R.set i x')
  | [], i, _, _, _, _, h, _ => by cases h
  | x :: C, 0, j, v, x', hj, _, he => by
    show (x.cells ++ cellsOf C).set (0 * 5 + j) v = x'.cells ++ cellsOf C
    rw [List.set_append_left _ _ (by show 0 * 5 + j < 5; omega), show 0 * 5 + j = j by omega, he]; rfl
  | x :: C, i + 1, j, v, x', hj, h, he => by
    show (x.cells ++ cellsOf C).set ((i + 1) * 5 + j) v = x.cells ++ cellsOf (C.set i x')
    rw [List.set_append_right _ _ (by show 5 ≤ (i + 1) * 5 + j; omega), show (i + 1) * 5 + j - x.cells.length = i * 5 + j by show (i + 1) * 5 + j - 5 = _; omega, cellsOf_set C i j v x' hj (by simpa using h) he]

def AddPost (w : World) (B : Nat) (R : List Rg) (sv : Value) (e : Ending) (w' : World) : Prop := e = .returned (.tuple #[]) ∧ ∃ sv', TlB w' B R sv' ∧ WrStep B w sv w' sv'
theorem AddPost.drew {w w' : World} {B : Nat} {R : List Rg} {sv : Value} {e : Ending} (h : AddPost w B R sv e w') : AddPost w B R sv e w'.drew := by
  obtain ⟨h1, sv', h2, h3⟩ := h
  exact ⟨h1, sv', h2.drew, h3.trans (.quiet (Keep.refl _ _).drew)⟩
theorem AddPost.drewN {w w' : World} {B : Nat} {R : List Rg} {sv : Value} {e : Ending} (h : AddPost w B R sv e w') (n : Nat) : AddPost w B R sv e (w'.drewN n) := by
  obtain ⟨h1, sv', h2, h3⟩ := h
  exact ⟨h1, sv', h2.keep0 ((Keep.refl _ _).drewN n), h3.trans (.quiet ((Keep.refl _ _).drewN n))⟩
theorem add_post {w w2 wz w3 : World} {B g cap H : Nat} {R : List Rg} {sv : Value} {x : Rg} (hw : TlB w2 B R sv) (hK2 : Keep (fun _ => False) w w2) (hz : Keep (fun _ => False) w2 wz) (hg : wz.grownBy w3 sv.ownBlock)
    (hat : sv.ownBlock = some g ∨ g = H) (hH : w2.heap.size ≤ H)
    (hown : w3.ownsRow (B + 1) 132 5 (.slice (some ⟨g, 0, none⟩) (R.length + 1) cap) (R.length + 1) (cellsOf R ++ [.int .i64 x.v, .int .i64 x.f, .int .i64 x.t, .int .i64 x.k, .int .i64 x.a])) :
    AddPost w B (R ++ [x]) sv (.returned (.tuple #[])) (w3.setCell ⟨B, 0, none⟩ (.slice (some ⟨g, 0, none⟩) (R.length + 1) cap)) := by
  have hB2 := hw.lt
  have hne : some B ≠ sv.ownBlock := fun e => by have := (own_in hw.own B e.symm).1; omega
  have hbl := grown_block hz hg hne hB2
  have hk3 : Keep (fun k => some k = sv.ownBlock) w2 w3 := (hz.mono (fun _ _ h => h.elim)).grown hg (fun k e _ => e.symm)
  have hkB : Keep (fun k => k = B) w3 (w3.setCell ⟨B, 0, none⟩ (.slice (some ⟨g, 0, none⟩) (R.length + 1) cap)) := keep_set (Keep.refl _ _) _ _
  refine ⟨rfl, .slice (some ⟨g, 0, none⟩) (R.length + 1) cap, ⟨?_, ?_⟩, ⟨?_, ?_⟩⟩
  · exact ((hw.row.of_block hbl).set 0 _).congr (fun o ho => by rw [if_pos (by omega)])
  · rw [List.length_append, cellsOf_snoc]
    exact own_keep hown hkB (fun k hk e => by have := (own_in hown k hk).1; omega)
  · exact ((hK2.mono (T := fun k => k = B ∨ some k = sv.ownBlock) (fun _ _ h => h.elim)).trans hk3 (fun _ _ h => .inr h)).trans hkB (fun _ _ h => .inl h)
  · intro k hk hn e
    have e' : some k = some g := e
    injection e' with e'
    subst e'
    have := hK2.size
    rcases hat with h | h
    · exact hn h.symm
    · omega

set_option maxRecDepth 100000 in
set_option maxHeartbeats 8000000 in
theorem addR_any (B : Nat) (R : List Rg) (sv : Value) (x : Rg) (w : World) (h : TlB w B R sv) (hl : R.length ≤ 1000) :
    Calls Tryd.prog 104 #[.pointer (some ⟨B, 0, none⟩), .agg #[.int .i64 x.v, .int .i64 x.f, .int .i64 x.t, .int .i64 x.k, .int .i64 x.a]] w (AddPost w B (addR R x) sv) := by
  have HI := hide h
  have hB := h.lt
  obtain ⟨w2, hw2, hq, HB2, hZ⟩ := box5 w x
  have HW := hide hw2
  have HK2 : Hid (Keep (fun _ => False) w w2) := Keep.of_below (unhide HB2) _
  have HI2 := hide ((unhide HI).below (unhide HB2))
  have cB : w2.cell? ⟨B, 0, none⟩ = some sv := (unhide HI2).cell
  have hf2 : ∀ o, w2.frozen? ⟨B, o, none⟩ = false := (unhide HI2).row.free
  have hB2 : B < w2.heap.size := (unhide HI2).lt
  have HO := hide (unhide HI2).own
  have HN : Hid (some B ≠ sv.ownBlock) := fun e => by have := (own_in (unhide HO) B e.symm).1; omega
  have HQ := hide hq
  obtain ⟨q0, q1, q2, q3, q4⟩ := hq
  clear hw2 h
  by_cases hn : R.length = 0
  · obtain rfl : R = [] := List.length_eq_zero_iff.1 hn
    have HR := hide (show addR [] x = [] ++ [x] from rfl)
    obtain ⟨ao, cap, hsv⟩ := (unhide HI2).shape
    rw [show ([] : List Rg).length = 0 from rfl] at hsv
    subst hsv
    clear hn hl
    go_enter Tryd.func104, Tryd.ntmps104
    go_upto_region 1 with fail
    rw [← unhide HW]
    go_wp2_with fail
    go_quiet (fail)
    obtain ⟨wA, hwA⟩ : ∃ wA, wA = w2.drewN nq := ⟨_, rfl⟩
    rw [← hwA]
    have hkA : Keep (fun _ => False) w2 wA := by rw [hwA]; exact (Keep.refl _ _).drewN _
    have HIA := hide ((unhide HI2).keep0 hkA)
    have HKA : Hid (Keep (fun _ => False) w wA) := (unhide HK2).trans hkA (fun _ _ h => h)
    have hsA : w2.heap.size ≤ wA.heap.size := hkA.size
    have hbl := hkA.block w.heap.size hZ (fun h => h)
    have HQA : Hid (At5 wA w.heap.size 0 x) := ⟨(World.cell?_of_block hbl).trans q0, (World.cell?_of_block hbl).trans q1, (World.cell?_of_block hbl).trans q2, (World.cell?_of_block hbl).trans q3, (World.cell?_of_block hbl).trans q4⟩
    clear hwA hkA hbl q0 q1 q2 q3 q4 cB hf2 HQ HI2 HO HN
    go_wp2_with fail
    have cA : wA.cell? ⟨B, 0, none⟩ = some (Value.slice ao 0 cap) := (unhide HIA).cell
    have hfA : ∀ o, wA.frozen? ⟨B, o, none⟩ = false := (unhide HIA).row.free
    have hBA : B < wA.heap.size := (unhide HIA).lt
    have hzA : w.heap.size < wA.heap.size := Nat.lt_of_lt_of_le hZ hsA
    have HOA := hide (unhide HIA).own
    have HNA : Hid (some B ≠ ((Value.slice ao 0 cap)).ownBlock) := fun e => by have := (own_in (unhide HOA) B e.symm).1; omega
    obtain ⟨y0, y1, y2, y3, y4⟩ := unhide HQA
    obtain ⟨i0, hi, hz0, hz1, hz2'⟩ := info_parts Tryd.info132
    go_region_law ((refine step_append_lies _ (by rfl) _ _ _ (by rfl) (B + 1) 132 i0 _ 5 40 Tryd.underlying93 hi hz0 hz1 hz2' rfl (by omega) ((Value.slice ao 0 cap)) 0 (cellsOf []) (by rfl) (own_keep (unhide HOA) (S := fun _ => False) (by repeat first | exact Keep.refl _ _ | refine Keep.drew ?_ | refine Keep.alloc ?_ _) (fun _ _ h => h)) ⟨wA.heap.size, 0, none⟩ 1 1 [.int .i64 x.v, .int .i64 x.f, .int .i64 x.t, .int .i64 x.k, .int .i64 x.a] (by rfl) (by rfl) (World.news_of_block (cs := #[.int .i64 x.v, .int .i64 x.f, .int .i64 x.t, .int .i64 x.k, .int .i64 x.a]) (t := 132) (fr := (0, 0)) (heap_alloc_new _ _)) (by simp [Value.oneCell']) (by omega) (by unfold maxLen; omega) (by omega) (by simp; omega) (wA.heap.size + 1) (by simp) ?_; intro g9 capg w3 hown3 hgrow hat3 hlt3; have HBL := hide (grown_block (a := wA) (by repeat first | exact Keep.refl _ _ | refine Keep.drew ?_ | refine Keep.alloc ?_ _) hgrow (unhide HNA) hBA); have b25 : w3.cell? ⟨B, 0, none⟩ = some ((Value.slice ao 0 cap)) := (World.cell?_of_block (unhide HBL)).trans cA; have bf : w3.frozen? ⟨B, 0, none⟩ = false := (World.frozen?_of_block (unhide HBL)).trans (hfA 0)))
    all_goals go_wp2_with fail
    all_goals go_returns
    all_goals
      rw [unhide HR]
      have hP := add_post (x := x) (H := wA.heap.size + 1) (unhide HIA) (unhide HKA) (by repeat first | exact Keep.refl _ _ | refine Keep.drew ?_ | refine Keep.alloc ?_ _) hgrow hat3 (by omega) hown3
      first | exact hP | exact hP.drew | exact hP.drew.drew
  obtain ⟨g, cap, rfl, hBg, hgw, hgf⟩ := (unhide HI2).slice (by omega)
  obtain ⟨li, hli⟩ : ∃ li : Nat, (R.length : Int) - 1 = (li : Int) := ⟨R.length - 1, by omega⟩
  have hlt : li < R.length := by omega
  have hlti : (li : Int) < R.length := by omega
  have hl0 : (0 : Int) ≤ (li : Int) := by omega
  have HLI := hide (show R.length - 1 = li by omega)
  have hat := own_rg (unhide HO) rfl hlt
  have HAT := hide hat
  obtain ⟨z0, z1, z2, z3, z4⟩ := hat
  have KG := hide (goesOn_any (rg R li) x)
  obtain ⟨bb, hbb⟩ : ∃ b, b = goesB (rg R li) x := ⟨_, rfl⟩
  rw [← hbb] at KG
  have HBB := hide hbb
  clear hbb
  obtain ⟨y, hy⟩ : ∃ y, y = rg R li := ⟨_, rfl⟩
  rw [← hy] at z0 z1 z2 z3 z4 KG HAT
  have HY := hide hy
  have hNg : w.heap.size ≠ g := fun e => by have := (unhide HI2).apart (show w2.heap.size ≤ w2.heap.size from Nat.le_refl _); have h1 := (unhide HI).apart (Nat.le_refl w.heap.size); exact h1 (by rw [e]; rfl)
  have hlen := hl
  clear hy
  go_enter Tryd.func104, Tryd.ntmps104
  go_upto_region 1 with fail
  rw [← unhide HW]
  go_upto_region 2 with fail

  clear hli
  go_region_held3 (fun w' => w'.cell? ⟨B, 0, none⟩ = some (.slice (some ⟨g, 0, none⟩) R.length cap) ∧ w'.cell? ⟨g, li * 5, none⟩ = some (.int .i64 y.v) ∧ w'.cell? ⟨g, li * 5 + 1, none⟩ = some (.int .i64 y.f) ∧ w'.cell? ⟨g, li * 5 + 2, none⟩ = some (.int .i64 y.t) ∧ w'.cell? ⟨g, li * 5 + 3, none⟩ = some (.int .i64 y.k) ∧ w'.cell? ⟨g, li * 5 + 4, none⟩ = some (.int .i64 y.a) ∧ w'.cell? ⟨w.heap.size, 0, none⟩ = some (.int .i64 x.v) ∧ w'.cell? ⟨w.heap.size, 1, none⟩ = some (.int .i64 x.f) ∧ w'.cell? ⟨w.heap.size, 2, none⟩ = some (.int .i64 x.t) ∧ w'.cell? ⟨w.heap.size, 3, none⟩ = some (.int .i64 x.k) ∧ w'.cell? ⟨w.heap.size, 4, none⟩ = some (.int .i64 x.a)) (first | (simp [*]; done) | assumption)
    ((go_at_call 132; refine (unhide KG _).mono ?_; rintro e wA ⟨rfl, hb5⟩; have HBA : Hid (Below w2.heap.size w2 wA) := ⟨hb5.os, hb5.tape, hb5.output, hb5.size, hb5.block⟩; clear hb5; have cB5 : wA.cell? ⟨B, 0, none⟩ = some (.slice (some ⟨g, 0, none⟩) R.length cap) := ((unhide HBA).cell (p := ⟨B, 0, none⟩) hB2).trans cB; have zz := (unhide HAT).below (unhide HBA) hgw; have qq := (unhide HQ).below (unhide HBA) hZ; clear q0 q1 q2 q3 q4 z0 z1 z2 z3 z4 cB; obtain ⟨q0, q1, q2, q3, q4⟩ := qq; obtain ⟨z0, z1, z2, z3, z4⟩ := zz))
  have HIA := hide ((unhide HI2).below (unhide HBA))
  have HKA : Hid (Keep (fun _ => False) w wA) := (unhide HK2).trans (Keep.of_below (unhide HBA) (fun _ => False)) (fun _ _ h => h)
  have hsA : w2.heap.size ≤ wA.heap.size := (unhide HBA).size
  have HQA : Hid (At5 wA w.heap.size 0 x) := ⟨q0, q1, q2, q3, q4⟩
  cases bb
  · have HR := hide (show addR R x = R ++ [x] by unfold addR; rw [if_neg (fun h => by have := h.2; rw [unhide HLI, ← unhide HBB] at this; cases this)])
    clear q0 q1 q2 q3 q4 z0 z1 z2 z3 z4 cB5 hf2 HQ HI2 HO HN HAT hgf
    go_wp2_with fail
    have cA : wA.cell? ⟨B, 0, none⟩ = some (Value.slice (some ⟨g, 0, none⟩) R.length cap) := (unhide HIA).cell
    have hfA : ∀ o, wA.frozen? ⟨B, o, none⟩ = false := (unhide HIA).row.free
    have hBA : B < wA.heap.size := (unhide HIA).lt
    have hzA : w.heap.size < wA.heap.size := Nat.lt_of_lt_of_le hZ hsA
    have HOA := hide (unhide HIA).own
    have HNA : Hid (some B ≠ ((Value.slice (some ⟨g, 0, none⟩) R.length cap)).ownBlock) := fun e => by have := (own_in (unhide HOA) B e.symm).1; omega
    obtain ⟨y0, y1, y2, y3, y4⟩ := unhide HQA
    obtain ⟨i0, hi, hz0, hz1, hz2'⟩ := info_parts Tryd.info132
    go_region_law ((refine step_append_lies _ (by rfl) _ _ _ (by rfl) (B + 1) 132 i0 _ 5 40 Tryd.underlying93 hi hz0 hz1 hz2' rfl (by omega) ((Value.slice (some ⟨g, 0, none⟩) R.length cap)) R.length (cellsOf R) (by rfl) (own_keep (unhide HOA) (S := fun _ => False) (by repeat first | exact Keep.refl _ _ | refine Keep.drew ?_ | refine Keep.alloc ?_ _) (fun _ _ h => h)) ⟨wA.heap.size, 0, none⟩ 1 1 [.int .i64 x.v, .int .i64 x.f, .int .i64 x.t, .int .i64 x.k, .int .i64 x.a] (by rfl) (by rfl) (World.news_of_block (cs := #[.int .i64 x.v, .int .i64 x.f, .int .i64 x.t, .int .i64 x.k, .int .i64 x.a]) (t := 132) (fr := (0, 0)) (heap_alloc_new _ _)) (by simp [Value.oneCell']) (by omega) (by unfold maxLen; omega) (by omega) (by simp; omega) (wA.heap.size + 1) (by simp) ?_; intro g9 capg w3 hown3 hgrow hat3 hlt3; have HBL := hide (grown_block (a := wA) (by repeat first | exact Keep.refl _ _ | refine Keep.drew ?_ | refine Keep.alloc ?_ _) hgrow (unhide HNA) hBA); have b25 : w3.cell? ⟨B, 0, none⟩ = some ((Value.slice (some ⟨g, 0, none⟩) R.length cap)) := (World.cell?_of_block (unhide HBL)).trans cA; have bf : w3.frozen? ⟨B, 0, none⟩ = false := (World.frozen?_of_block (unhide HBL)).trans (hfA 0)))
    all_goals go_wp2_with fail
    all_goals go_returns
    all_goals
      rw [unhide HR]
      have hP := add_post (x := x) (H := wA.heap.size + 1) (unhide HIA) (unhide HKA) (by repeat first | exact Keep.refl _ _ | refine Keep.drew ?_ | refine Keep.alloc ?_ _) hgrow hat3 (by omega) hown3
      first | exact hP | exact hP.drew | exact hP.drew.drew
  · have HR := hide (show addR R x = R.set li ⟨y.v, y.f, x.t, y.k, y.a⟩ by unfold addR; rw [if_pos ⟨by omega, by rw [unhide HLI]; exact (unhide HBB).symm⟩, unhide HLI, ← unhide HY])
    have hgA : g < wA.heap.size := Nat.lt_of_lt_of_le hgw hsA
    have HOA := hide (unhide HIA).own
    have hgfA : ∀ o, wA.frozen? ⟨g, o, none⟩ = false := fun o => (World.frozen?_of_block ((unhide HBA).block g hgw)).trans (hgf o)
    have hkB : ∀ (wq : World) (j o : Nat) (z : Value), (wq.setCell ⟨g, j, none⟩ z).cell? ⟨B, o, none⟩ = wq.cell? ⟨B, o, none⟩ := fun wq j o z => World.cell?_setCell_other _ _ _ _ (fun e => by injection e with e1; omega)
    have hkN : ∀ (wq : World) (j o : Nat) (z : Value), (wq.setCell ⟨g, j, none⟩ z).cell? ⟨w.heap.size, o, none⟩ = wq.cell? ⟨w.heap.size, o, none⟩ := fun wq j o z => World.cell?_setCell_other _ _ _ _ (fun e => by injection e with e1; omega)
    have HP : Hid (AddPost w B (addR R x) (.slice (some ⟨g, 0, none⟩) R.length cap) (.returned (.tuple #[])) ((wA.setCell ⟨g, li * 5 + 2, none⟩ (.int .i64 x.t)).drew)) := by
      refine ⟨rfl, .slice (some ⟨g, 0, none⟩) R.length cap, ⟨?_, ?_⟩, ⟨?_, fun _ _ h => h⟩⟩
      · exact ((unhide HIA).row.of_block (heap_setCell_other wA ⟨g, li * 5 + 2, none⟩ B (.int .i64 x.t) (show B ≠ g by omega))).drew
      · have ho := own_set (unhide HOA) (li * 5 + 2) (.int .i64 x.t)
        rw [cellsOf_set R li 2 _ ⟨y.v, y.f, x.t, y.k, y.a⟩ (by omega) hlt (by rw [← unhide HY]; rfl), ← unhide HR] at ho
        have e : (addR R x).length = R.length := by rw [unhide HR, List.length_set]
        rw [e]
        exact own_keep ho (Keep.refl (fun _ => False) _).drew (fun _ _ h => h)
      · exact (((unhide HKA).mono (T := fun k => k = B ∨ some k = (Value.slice (some ⟨g, 0, none⟩) R.length cap).ownBlock) (fun _ _ h => h.elim)).setCell (p := ⟨g, li * 5 + 2, none⟩) (.inr rfl) _).drew
    clear hf2 HQ HI2 HO HN HAT hgf HOA
    go_wp2_with fail
    go_region_held3 (fun w' => w'.cell? ⟨B, 0, none⟩ = some (.slice (some ⟨g, 0, none⟩) R.length cap) ∧ w'.cell? ⟨w.heap.size, 2, none⟩ = some (.int .i64 x.t)) (first | (simp [*]; done) | assumption) (fail)
    go_wp2_with fail
    go_returns
    exact unhide HP
end Go.Proofs.YtoepcplbpochpaaDoor

/-
  The table: lodge.findRanges.
-/
namespace Go.Proofs.YtoepcplbpochpaaDoor
open Go.RowKit

/-- The table behind the place i. -/
def rngS (hs : Nat → Bool) (ha : Nat → Nat) (st : Nat → Nat) (L : List In4) (v i : Nat) (R : List Rg) : List Rg :=
  if (inAt L i).op = 11 ∧ canB (factB L i v) (liveB L i) = true then addR R ⟨v, st i, (st i : Int) + 1, placeK (factB L i v) hs, placeA (factB L i v) ha⟩ else R
def rngI (hs : Nat → Bool) (ha : Nat → Nat) (st : Nat → Nat) (L : List In4) (v : Nat) (R : List Rg) : Nat → List Rg
  | 0 => R
  | k + 1 => rngS hs ha st L v k (rngI hs ha st L v R k)
def rngV (hs : Nat → Bool) (ha : Nat → Nat) (st : Nat → Nat) (L : List In4) : Nat → List Rg
  | 0 => []
  | v + 1 => rngI hs ha st L v (rngV hs ha st L v) L.length
theorem addR_len (R : List Rg) (g : Rg) : (addR R g).length ≤ R.length + 1 := by
  unfold addR; split
  · rw [List.length_set]; omega
  · rw [List.length_append]; simp
theorem rngI_len (hs : Nat → Bool) (ha : Nat → Nat) (st : Nat → Nat) (L : List In4) (v : Nat) (R : List Rg) : ∀ k, (rngI hs ha st L v R k).length ≤ R.length + k
  | 0 => Nat.le_refl _
  | k + 1 => by
    have ih := rngI_len hs ha st L v R k
    show (rngS hs ha st L v k _).length ≤ _
    unfold rngS
    split
    · exact Nat.le_trans (addR_len _ _) (by omega)
    · omega
theorem rngV_len (hs : Nat → Bool) (ha : Nat → Nat) (st : Nat → Nat) (L : List In4) : ∀ v, (rngV hs ha st L v).length ≤ v * L.length
  | 0 => Nat.zero_le _
  | v + 1 => by
    have := rngV_len hs ha st L v
    refine Nat.le_trans (rngI_len hs ha st L v _ L.length) ?_
    rw [Nat.succ_mul]; omega

theorem Tryd.size115 : (Tryd.prog.info? 115).map (·.size) = some 40 := by kernel_rfl
/-- The head of findRanges. -/
theorem open_rng (w : World) (P R V : Int) (sl : Value) (c1 c2 c3 : Nat → Value) : ∃ w1, w1 = (((w.alloc (.cells #[.int .i64 P, .int .i64 R, .int .i64 V, sl] 24)).alloc (.cells (rowA 480 c1) 108)).alloc (.cells (rowA 24 c2) 113)).alloc (.cells (rowA 40 c3) 115) ∧
    Hid (ProgB w1 w.heap.size P R V sl) ∧ Hid (Rowd w1 (w.heap.size + 1) 108 480 c1) ∧ Hid (Rowd w1 (w.heap.size + 1 + 1) 113 24 c2) ∧ Hid (Rowd w1 (w.heap.size + 1 + 1 + 1) 115 40 c3) ∧ Hid (Below w.heap.size w w1) ∧ w.heap.size + 1 + 1 + 1 < w1.heap.size := by
  obtain ⟨w0, hw0, h1, h2, h3, h4, h5⟩ := open_pl w P R V sl 480 24 113 c1 c2
  have hb := below_alloc w0 (.cells (rowA 40 c3) 115)
  refine ⟨_, rfl, ?_, ?_, ?_, ?_, ?_, ?_⟩
  all_goals rw [← hw0]
  · exact (unhide h1).below hb
  · exact (unhide h2).below hb
  · exact (unhide h3).below hb
  · exact at_alloc _ _ _ (by rw [hw0]; simp)
  · exact (unhide h4).trans (hb.mono (unhide h4).size)
  · simp; omega

set_option maxRecDepth 100000 in
set_option maxHeartbeats 8000000 in
theorem ranges_any (P R : Int) (V : Nat) (L : List In4) (ao : Option Addr) (cap : Nat) (hs : Nat → Bool) (ha : Nat → Nat) (st : Nat → Nat) (w : World) (hH : HeldIns w ao L) (hL : Inside L) (hV : V ≤ 4) (hn1 : 1 ≤ L.length) (hn : L.length ≤ 40) (hst : ∀ i, st i ≤ 1000)
    (hfb : ∀ i v, i < L.length → v < 4 → (factB L i v).k = 3 → 0 ≤ (factB L i v).a ∧ (factB L i v).a < 12) :
    Calls Tryd.prog 70 #[.agg #[.int .i64 P, .int .i64 R, .int .i64 V, .slice ao L.length cap], .agg (rowA 480 (gridV (liveB L))), .agg (rowA 24 (homV hs ha)), .agg (rowA 40 (numV st))] w fun e w' =>
      ∃ sv, e = .returned sv ∧ w'.ownsRow w.heap.size 132 5 sv (rngV hs ha st L V).length (cellsOf (rngV hs ha st L V)) ∧ Below w.heap.size w w' := by
  obtain ⟨b, off, rfl, hb, hI⟩ := held_at hH hn1
  have HI := hide hI
  have KF := hide (fun w hH => findFacts_any L (some ⟨b, off, none⟩) cap w hH hL hn1 hn)
  have HFB := hide hfb
  have HST := hide hst
  clear hI hfb hst hL
  go_enter Tryd.func70, Tryd.ntmps70
  go_upto_region 1 with fail
  obtain ⟨w1, hw1, HP1, HV1, HH1, HS1, HL1, hz1⟩ := open_rng w P R V (.slice (some ⟨b, off, none⟩) L.length cap) (gridV (liveB L)) (homV hs ha) (numV st)
  rw [← hw1]
  have p3 := (unhide HP1).c3
  have KF' := hide (unhide KF w1 (hH.below (unhide HL1)))
  clear hw1 hH KF
  go_wp2_with fail
  refine (unhide KF').mono ?_
  rintro e w2 ⟨rfl, hb2⟩
  have HP2 := hide ((unhide HP1).below hb2)
  have HV2 := hide ((unhide HV1).below hb2)
  have HH2 := hide ((unhide HH1).below hb2)
  have HS2 := hide ((unhide HS1).below hb2)
  have HL2 : Hid (Below w.heap.size w w2) := (unhide HL1).trans (hb2.mono (unhide HL1).size)
  have hz2 : w.heap.size + 1 + 1 + 1 < w2.heap.size := Nat.lt_of_lt_of_le hz1 hb2.size
  clear hb2 p3 KF' HP1 HV1 HH1 HS1 HL1 hz1
  go_upto_region 3 with (refine wpList_store_row ?h1 155 ?h2 ?h3 ?h4 w2.heap.size ?h5 ?h6 ?h7 ?h8 ?h9 ?h10 ?h11 ?h12 ?h13 ?h14; case h4 => rfl)
  case h1 => rfl
  case h6 => rfl
  case h7 => rfl
  case h10 => exact heap_alloc_new _ _
  case h11 => rw [rowA_size]; exact Tryd.size155
  case h12 => rw [rowA_size, zero155, rowA_size]
  case h13 => exact rowA_plain (factV_plain _)
  rw [World.setRow_alloc_new]
  obtain ⟨w3, hw3, HF3, HL3', hz3⟩ := box_row w2 155 320 (factV (factB L))
  have e3 : w2.heap.size + 1 = w3.heap.size := by rw [hw3]; simp
  rw [← hw3]
  rw [e3]
  clear hw3 e3
  obtain ⟨w4, hw4⟩ : ∃ w4, w4 = w3.alloc (.cells #[.slice none 0 0] 158) := ⟨_, rfl⟩
  rw [← hw4]
  have hb34 : Below w3.heap.size w3 w4 := by rw [hw4]; exact below_alloc _ _
  have hb24 : Below w2.heap.size w2 w4 := (unhide HL3').trans (hb34.mono (by omega))
  have HT4 : Hid (TlB w4 w3.heap.size [] (.slice none 0 0)) := by
    rw [hw4]; exact ⟨rowd_alloc w3 158 1 (fun _ => .slice none 0 0), rfl, .inl ⟨rfl, rfl⟩⟩
  have HP4 := hide ((unhide HP2).below hb24)
  have HV4 := hide ((unhide HV2).below hb24)
  have HH4 := hide ((unhide HH2).below hb24)
  have HS4 := hide ((unhide HS2).below hb24)
  have HF4 := hide ((unhide HF3).below hb34)
  have HL4 : Hid (Below w.heap.size w w4) := (unhide HL2).trans (hb24.mono (unhide HL2).size)
  have HLI4 : Hid (LieI w4 b off L) := (unhide HI).below (unhide HL4) hb
  have hbT : b < w3.heap.size := by omega
  have hz4 : w3.heap.size < w4.heap.size := (unhide HT4).lt
  clear hw4 hb34 hb24 HP2 HV2 HH2 HS2 HF3 HL2 HL3' HI
  have HBR := hide (show ∀ (wr : World), Below w3.heap.size w4 wr → ProgB wr w.heap.size P R V (.slice (some ⟨b, off, none⟩) L.length cap) ∧ Rowd wr (w.heap.size + 1) 108 480 (gridV (liveB L)) ∧ Rowd wr (w.heap.size + 1 + 1) 113 24 (homV hs ha) ∧ Rowd wr (w.heap.size + 1 + 1 + 1) 115 40 (numV st) ∧ Rowd wr w2.heap.size 155 320 (factV (factB L)) ∧ LieI wr b off L from fun wr hb =>
    ⟨(hb.block _ (by omega)).trans (unhide HP4), (unhide HV4).of_block (hb.block _ (by omega)), (unhide HH4).of_block (hb.block _ (by omega)), (unhide HS4).of_block (hb.block _ (by omega)), (unhide HF4).of_block (hb.block _ (by omega)), (unhide HLI4).below hb hbT⟩)
  have KC := hide can_any
  have KP := hide place_any
  have KA := hide addR_any
  have HVL := hide (rngV_len hs ha st L)
  have HIL := hide (rngI_len hs ha st L)
  clear HP4 HV4 HH4 HS4 HF4 HLI4
  go_wp2_with fail
  go_loopw [11] (fun i' wr => ∃ v : Nat, v ≤ V ∧ i' = .int .i64 v ∧ ∃ sv, Hid (TlB wr w3.heap.size (rngV hs ha st L v) sv) ∧ Hid (Below w3.heap.size w4 wr)) (fun i' _ => V - (intOf i').toNat)
  case atStart => exact ⟨0, by omega, rfl, _, unhide HT4, Below.refl _ _⟩
  case round =>
    clear HT4
    obtain ⟨v, hv, rfl, sv, HT, HB⟩ := hrel
    have p2 := (unhide HBR wr (unhide HB)).1.c2
    by_cases hlt : v < V
    case neg =>
      have hvV : v = V := by omega
      subst hvV
      have c0 := (unhide HT).cell
      have HR : Hid (∃ sv', sv = sv' ∧ wr.ownsRow w.heap.size 132 5 sv' (rngV hs ha st L v).length (cellsOf (rngV hs ha st L v)) ∧ Below w.heap.size w wr) := ⟨sv, rfl, own_weakR (unhide HT).own (by omega), (unhide HL4).trans ((unhide HB).mono (by omega))⟩
      go_wp2_with fail
      go_ret
      obtain ⟨sv', h1, h2, h3⟩ := unhide HR
      exact ⟨sv, rfl, by rw [h1]; exact h2, h3⟩
    have hvi : (v : Int) < 4 := by omega
    go_wp2_with fail
    obtain ⟨wo, rfl⟩ : ∃ wo, wo = wr := ⟨_, rfl⟩
    go_loopw [12] (fun i' wr => ∃ k : Nat, k ≤ L.length ∧ i' = .int .i64 k ∧ ∃ sv, Hid (TlB wr w3.heap.size (rngI hs ha st L v (rngV hs ha st L v) k) sv) ∧ Hid (Below w3.heap.size w4 wr)) (fun i' _ => L.length - (intOf i').toNat)
    case atStart => exact ⟨0, by omega, rfl, sv, unhide HT, unhide HB⟩
    case round =>
      clear HT HB p2
      obtain ⟨k, hk, rfl, sv', HT, HB⟩ := hrel
      obtain ⟨hP, hV', hH', hS', hF', hI'⟩ := unhide HBR wr (unhide HB)
      have p3 := hP.c3
      by_cases hlk : k < L.length
      case neg =>
        have hkL : k = L.length := by omega
        subst hkL
        go_wp2_with fail
        go_roundw
        case rel => exact ⟨v + 1, by omega, by go_num, sv', unhide HT, unhide HB⟩
        case measure => simp [intOf]; omega
      have hki : (k : Int) < L.length := by omega
      have hki4 : (k : Int) < 40 := by omega
      obtain ⟨c0, c1⟩ := fcell hF' (i := k) (v := v) (by omega) (by omega)
      have hfb := unhide HFB k v hlk (by omega)
      have HSG := hide (show rngI hs ha st L v (rngV hs ha st L v) (k + 1) = if (inAt L k).op = 11 ∧ canB (factB L k v) (liveB L k) = true then addR (rngI hs ha st L v (rngV hs ha st L v) k) ⟨v, st k, (st k : Int) + 1, placeK (factB L k v) hs, placeA (factB L k v) ha⟩ else rngI hs ha st L v (rngV hs ha st L v) k from rfl)
      have hll : (rngI hs ha st L v (rngV hs ha st L v) k).length ≤ 1000 := by
        have h1 := unhide HIL v (rngV hs ha st L v) k
        have h2 := unhide HVL v
        have h3 : v * L.length ≤ 4 * 40 := Nat.mul_le_mul (by omega) hn
        omega
      have HLL := hide hll
      obtain ⟨f, hf⟩ : ∃ f, f = factB L k v := ⟨_, rfl⟩
      rw [← hf] at c0 c1 hfb HSG
      have HFB' := hide hfb
      clear hf hfb hll
      obtain ⟨RI, hRI⟩ : ∃ RI, RI = rngI hs ha st L v (rngV hs ha st L v) k := ⟨_, rfl⟩
      rw [← hRI] at HT HSG HLL
      have HRI := hide hRI
      clear hRI
      obtain ⟨wX, hwX⟩ : ∃ wX, wX = wr.alloc (.cells #[.int .i64 f.k, .int .i64 f.a] 151) := ⟨_, rfl⟩
      have HWX := hide hwX
      have hbX : Below wr.heap.size wr wX := by rw [hwX]; exact below_alloc _ _
      have hxX : At2 wX wr.heap.size 0 f := by rw [hwX]; exact at2_new wr f _ rfl
      have HTX := hide ((unhide HT).below hbX)
      have hTw := (unhide HT).lt
      have HBX : Hid (Below w3.heap.size w4 wX) := (unhide HB).trans (hbX.mono (by omega))
      have hzX : wr.heap.size < wX.heap.size := by rw [hwX]; simp
      have HXX := hide hxX
      clear hwX hbX HT HB
      go_upto_region 10 with fail
      rw [← unhide HWX]
      clear c0 c1 p3 hP hV' hH' hS' hF' hI' HWX
      obtain ⟨hP, hV', hH', hS', hF', hI'⟩ := unhide HBR wX (unhide HBX)
      have p3 := hP.c3
      have hop := (hI' k hlk).1
      obtain ⟨op, hop'⟩ : ∃ o, o = (inAt L k).op := ⟨_, rfl⟩
      rw [← hop'] at hop HSG
      have HOP := hide hop'
      clear hop'
      by_cases h11 : op = 11
      case neg =>
        have g11 : (op == 11) = false := by rw [beq_eq_false_iff_ne]; exact h11
        have HR : Hid (rngI hs ha st L v (rngV hs ha st L v) (k + 1) = RI) := by
          have := unhide HSG
          rw [if_neg (fun h => h11 h.1)] at this
          exact this
        clear h11 hV' hH' hS' hF' hI' hP hxX
        go_quiet (fail)
        obtain ⟨wY, hwY⟩ : ∃ wY, wY = wX.drewN nq := ⟨_, rfl⟩
        rw [← hwY]
        have HTY : Hid (TlB wY w3.heap.size (rngI hs ha st L v (rngV hs ha st L v) (k + 1)) sv') := by rw [hwY, unhide HR]; exact (unhide HTX).keep0 ((Keep.refl _ _).drewN _)
        have HBY : Hid (Below w3.heap.size w4 wY) := by rw [hwY]; exact below_drewN' (unhide HBX) _
        clear hwY
        go_wp2_with fail
        go_roundw
        case rel => exact ⟨k + 1, by omega, by go_num, sv', unhide HTY, unhide HBY⟩
        case measure => simp [intOf]; omega
      subst h11
      obtain ⟨x0, x1⟩ := hxX
      have hrg := range12 hV' k (by omega)
      have hu := Tryd.underlying105
      have hsz := size12 (liveB L k)
      have KC' := hide (unhide KC f (liveB L k))
      obtain ⟨cb, hcb⟩ : ∃ c, c = canB f (liveB L k) := ⟨_, rfl⟩
      rw [← hcb] at KC' HSG
      have HCB := hide hcb
      clear hcb
      clear hH' hS' hF' hI' hP hV'
      go_region_held3 (fun w' => w'.cell? ⟨w.heap.size, 3, none⟩ = some (.slice (some ⟨b, off, none⟩) L.length cap) ∧ w'.cell? ⟨b, off + k * 4, none⟩ = some (.int .i64 11) ∧ w'.cell? ⟨wr.heap.size, 0, none⟩ = some (.int .i64 f.k) ∧ w'.cell? ⟨wr.heap.size, 1, none⟩ = some (.int .i64 f.a) ∧ w'.rangeAt (w.heap.size + 1) (k * 12) (cells12 (liveB L k))) (first | assumption | (refine ⟨?_, ?_, ?_, ?_, ?_⟩ <;> assumption))
        ((go_at_call 102; refine (unhide KC' _ (unhide HFB')).mono ?_; rintro e wY ⟨rfl, hbY⟩; have HXY : Hid (Below wX.heap.size wX wY) := ⟨hbY.os, hbY.tape, hbY.output, hbY.size, hbY.block⟩; clear hbY; have HBY : Hid (Below w3.heap.size w4 wY) := (unhide HBX).trans ((unhide HXY).mono (by omega)); have hh := unhide HBR wY (unhide HBY); have xx := (unhide HXX).below (unhide HXY) hzX; clear p3 hop x0 x1 hrg; have p3 := hh.1.c3; have hop : wY.cell? ⟨b, off + k * 4, none⟩ = some (.int .i64 11) := (by have := (hh.2.2.2.2.2 k hlk).1; rw [← unhide HOP] at this; exact this); have hrg := range12 hh.2.1 k (by omega); obtain ⟨x0, x1⟩ := xx; clear hh))
      have HTY := hide ((unhide HTX).below (unhide HXY))
      have hzY : wr.heap.size < wY.heap.size := Nat.lt_of_lt_of_le hzX (unhide HXY).size
      cases cb
      · have HR : Hid (rngI hs ha st L v (rngV hs ha st L v) (k + 1) = RI) := by
          have := unhide HSG
          rw [if_neg (fun h => by cases h.2)] at this
          exact this
        have HTZ : Hid (TlB wY w3.heap.size (rngI hs ha st L v (rngV hs ha st L v) (k + 1)) sv') := by rw [unhide HR]; exact unhide HTY
        clear p3 hop x0 x1 hrg hu hsz
        go_wp2_with fail
        go_roundw
        case rel => exact ⟨k + 1, by omega, by go_num, sv', unhide HTZ, unhide HBY⟩
        case measure => simp [intOf]; omega
      · have HR : Hid (rngI hs ha st L v (rngV hs ha st L v) (k + 1) = addR RI ⟨v, st k, (st k : Int) + 1, placeK f hs, placeA f ha⟩) := by
          have := unhide HSG
          rw [if_pos ⟨trivial, rfl⟩] at this
          exact this
        have HH' := hide ((unhide HBR wY (unhide HBY)).2.2.1)
        have KP' := hide (unhide KP f hs ha wY (fun h2 => unhide HFB' (by
          have := unhide HCB
          unfold canB at this
          rw [show (f.k == 2) = false by rw [beq_eq_false_iff_ne]; exact h2, Bool.false_or] at this
          have h3 := (Bool.and_eq_true _ _ ▸ this.symm : (f.k == 3) = true ∧ _)
          exact beq_iff_eq.1 h3.1)))
        obtain ⟨pk, hpk⟩ : ∃ y, y = placeK f hs := ⟨_, rfl⟩
        obtain ⟨pa, hpa⟩ : ∃ y, y = placeA f ha := ⟨_, rfl⟩
        rw [← hpk, ← hpa] at KP' HR
        clear hpk hpa p3 hop hrg hu hsz KC' HSG HCB
        iterate 60 (first | (refine wpList_load_row rfl 113 _ rfl (w.heap.size + 1 + 1) rfl 113 _ (0, 0) _ (unhide HH') Tryd.underlying113 rfl (by rw [rowA_size]; exact Tryd.size113) ?_; clear HH') | go_values | go_skip | go_guarded | go_step | skip)
        refine (unhide KP').mono ?_
        rintro e wZ ⟨rfl, hbZ⟩
        have HBZ : Hid (Below w3.heap.size w4 wZ) := (unhide HBY).trans (hbZ.mono (by omega))
        have HTZ := hide ((unhide HTY).below hbZ)
        clear hbZ x0 x1 KP' HTY HTX
        have s0 := num_cell (unhide HBR wZ (unhide HBZ)).2.2.2.1 (r := k) (by omega)
        have hst := unhide HST k
        obtain ⟨sk, hsk⟩ : ∃ y, y = st k := ⟨_, rfl⟩
        rw [← hsk] at s0 hst HR
        have KA' := hide (unhide KA w3.heap.size RI sv' ⟨v, sk, (sk : Int) + 1, pk, pa⟩)
        simp only at KA'
        have hsw : IntKind.i64.wrap ((sk : Int) + 1) = (sk : Int) + 1 := by rw [IntKind.wrap_i64]; omega
        have HSK := hide hsk
        clear hsk
        go_upto_region 12 with fail
        go_region_held3 (fun w' => w'.cell? ⟨w.heap.size + 1 + 1 + 1, k, none⟩ = some (.int .i64 (sk : Int))) (first | assumption | (simp [*]; done))
          ((go_at_call 104; refine (unhide KA' _ (unhide HTZ).drew (unhide HLL)).mono ?_; rintro e wQ ⟨rfl, svQ, hQ1, hQ2⟩; have HQ1 : Hid (TlB wQ w3.heap.size (rngI hs ha st L v (rngV hs ha st L v) (k + 1)) svQ) := (by rw [unhide HR]; exact hQ1); have HQ2 : Hid (Below w3.heap.size w4 wQ) := (by have h := TlB.under hQ2 (unhide HTZ).drew; have h' : Below w3.heap.size wZ wQ := ⟨h.os, h.tape, h.output, h.size, h.block⟩; exact (unhide HBZ).trans h'); clear hQ1 hQ2 s0; have s0 := num_cell (unhide HBR wQ (unhide HQ2)).2.2.2.1 (r := k) (by omega); rw [← unhide HSK] at s0))
        clear s0
        go_wp2_with fail
        go_roundw
        case rel => exact ⟨k + 1, by omega, by go_num, svQ, unhide HQ1, unhide HQ2⟩
        case measure => simp [intOf]; omega
end Go.Proofs.YtoepcplbpochpaaDoor
